/- How many acts there were behind an act, and that the power stays one of the machine's. No condition. -/
import Derived.Test.YtdiocjneakfdgaaGreatDoorQNandD
namespace Go.Proofs.YtdiocjneakfdgaaGreatDoor
open Go.RowKit
section
variable {S : Ch} {s : NM.Pwr}
theorem few_program (b k : Int) (d : List UInt8) (s : NM.Pwr) (n : Nat) (h : S.few n) : (S.program b k d s).1.few (n + 1) := by
  obtain ⟨h1, h2, h3⟩ := h
  unfold Ch.program
  split
  · exact ⟨by show S.dp ≤ _; omega, by show S.de ≤ _; omega, by show S.cnt ≤ _; omega⟩
  · split
    · exact ⟨by show S.dp ≤ _; omega, by show S.de ≤ _; omega, by show S.cnt ≤ _; omega⟩
    · exact ⟨by show S.dp + 1 ≤ _; omega, by show S.de ≤ _; omega, by show S.cnt + 1 ≤ _; omega⟩
theorem few_erase (b : Int) (s : NM.Pwr) (n : Nat) (h : S.few n) : (S.erase b s).1.few (n + 1) := by
  obtain ⟨h1, h2, h3⟩ := h
  unfold Ch.erase
  split
  · exact ⟨by show S.dp ≤ _; omega, by show S.de ≤ _; omega, by show S.cnt ≤ _; omega⟩
  · simp only
    split
    · exact ⟨by show S.dp ≤ _; omega, by show S.de + 1 ≤ _; omega, by show S.cnt + 1 ≤ _; omega⟩
    · exact ⟨by show S.dp ≤ _; omega, by show S.de + 1 ≤ _; omega, by show S.cnt + 1 ≤ _; omega⟩
theorem program_fits (b k : Int) (d : List UInt8) (h : s.fits) : (S.program b k d s).2.1.fits := by
  unfold Ch.program
  split
  · exact h
  · split
    · exact h
    · exact NM.Pwr.act_fits h
theorem erase_fits (b : Int) (h : s.fits) : (S.erase b s).2.1.fits := by
  unfold Ch.erase
  split
  · exact h
  · exact NM.Pwr.act_fits h
theorem few_le {n m : Nat} (hn : n ≤ m) (h : S.few n) : S.few m := ⟨Nat.le_trans h.1 hn, Nat.le_trans h.2.1 hn, Nat.le_trans h.2.2 hn⟩
end
end Go.Proofs.YtdiocjneakfdgaaGreatDoor

