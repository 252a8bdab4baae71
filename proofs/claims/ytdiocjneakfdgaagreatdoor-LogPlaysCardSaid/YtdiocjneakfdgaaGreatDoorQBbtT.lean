/- Several texts of the proof, joined: what each has is said at its head. -/
import Derived.Test.YtdiocjneakfdgaaGreatDoorQBbtR
import Derived.Test.YtdiocjneakfdgaaGreatDoorQNandF
/- What the calls do on a chip of which nothing fails, and what is found where bits are turned: the plain facts. -/
namespace Go.Proofs.YtdiocjneakfdgaaGreatDoor
open Go.RowKit
section
variable {S : Ch} {s : NM.Pwr} {o k : Nat} {l : Lay}
/-- of the first i pages of the table's own blocks one bit each is turned -/
structure Turned (S0 S : Ch) (i : Nat) : Prop where
  len : S.bs.length = S0.bs.length
  live : S.live = S0.live
  page : ∀ q, q < 16 → (q < i → ∃ x, x < 2064 ∧ pageOf S.bs (q / 8) (q % 8) = NM.fl (pageOf S0.bs (q / 8) (q % 8)) x) ∧ (i ≤ q → pageOf S.bs (q / 8) (q % 8) = pageOf S0.bs (q / 8) (q % 8))
  pgs : ∀ b, b < 2 → (S.bs.getD b ⟨[], 0, false⟩).pg.length = 8
end
end Go.Proofs.YtdiocjneakfdgaaGreatDoor

/- What keep does on a chip of which nothing fails, where the power may end: the plain facts. -/
namespace Go.Proofs.YtdiocjneakfdgaaGreatDoor
open Go.RowKit
/-- nothing fails, the chip answers -/
structure CalmP (S : Ch) : Prop where
  fp : ∀ i, S.fp i = false
  fe : ∀ i, S.fe i = false
  live : S.live = true
  len : 16 ≤ S.bs.length
  good : ∀ b, b < 2 → (S.bs.getD b ⟨[], 0, false⟩).bad = false
  oks : ∀ b, b < 2 → (S.bs.getD b ⟨[], 0, false⟩).pg.length = 8
section
variable {S : Ch} {s : NM.Pwr}
end
/-- one table counts: it stands in block o, with the number k; in the other block there may be one that counts less -/
structure Two2 (S : Ch) (o k : Nat) (l : Lay) : Prop where
  lt : o < 2
  here : tableOf S.bs.length (pageOf S.bs o 0) = some (k, l)
  rest : ∀ j, 1 ≤ j → j < 8 → tableOf S.bs.length (pageOf S.bs o j) = none
  other : tableOf S.bs.length (pageOf S.bs (1 - o) 0) = none ∨ ∃ l', tableOf S.bs.length (pageOf S.bs (1 - o) 0) = some (k + 1, l')
  others : ∀ j, 1 ≤ j → j < 8 → tableOf S.bs.length (pageOf S.bs (1 - o) j) = none
theorem wipP_page {P : List (List UInt8)} {n j : Nat} (hP : P.length = 8) (hn : n ≤ 8) : (wipP n P).getD j [] = if j < n then NM.ff else P.getD j [] := by
  unfold wipP
  rw [hP, Nat.min_eq_left hn, List.getD_eq_getElem?_getD]
  by_cases c : j < n
  · rw [if_pos c, List.getElem?_append_left (by simpa using c), List.getElem?_replicate, if_pos c]
    rfl
  · rw [if_neg c, List.getElem?_append_right (by simp; omega), List.length_replicate, List.getElem?_drop, show n + (j - n) = j by omega, List.getD_eq_getElem?_getD]
/-- a page written in part is torn, or whole -/
theorem wr_part {n : Nat} {d : List UInt8} (hd : d.length = 258) (hn : n ≤ 258) : (NM.wr n NM.ff d).getD 257 0 = 255 ∨ NM.wr n NM.ff d = d := by
  rcases Nat.lt_or_ge n 258 with c | c
  · left
    rw [List.getD_eq_getElem?_getD, NM.wr_get, show NM.ff[257]? = some 255 by decide, Option.map_some, if_neg (by omega)]
    rfl
  · right
    rw [show n = 258 by omega]
    exact wr_all hd
theorem act_on {s : NM.Pwr} (ho : s.off = false) (h : s.act.2 = false) : s.act.1.off = false := by
  unfold NM.Pwr.act at h ⊢
  split
  · exact ho
  · rename_i c
    rw [if_neg c] at h
    exact h
end Go.Proofs.YtdiocjneakfdgaaGreatDoor

