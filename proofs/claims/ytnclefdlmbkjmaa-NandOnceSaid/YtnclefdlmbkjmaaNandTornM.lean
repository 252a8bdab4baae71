/- Plain mathematics for NandTorn: the pages of the block. No program, no condition. -/
import Derived.Test.YtnclefdlmbkjmaaNandOne
namespace Go.Proofs.Ytnclefdlmbkjmaa
open Go
/-- a blank block whose first page was written -/
def Bk.one (d : List UInt8) : Bk := ⟨d :: List.replicate 7 NM.ff, 1, false⟩
theorem wr_full {d : List UInt8} (hd : d.length = 258) : NM.wr 258 NM.ff d = d := by
  apply List.ext_getElem?
  intro i
  rw [NM.wr_get]
  by_cases h : i < 258
  · rw [show NM.ff[i]? = some 255 by unfold NM.ff; rw [List.getElem?_replicate, if_pos h], List.getElem?_eq_getElem (by omega), Option.map_some, if_pos h, List.getD_eq_getElem?_getD, List.getElem?_eq_getElem (by omega), Option.getD_some]
    congr 1
    apply UInt8.toNat_inj.1
    rw [UInt8.toNat_and]
    show 255 &&& _ = _
    rw [Nat.and_comm]
    have := Nat.and_two_pow_sub_one_eq_mod (d[i].toNat) 8
    rw [show 2 ^ 8 - 1 = 255 from rfl] at this
    rw [this, Nat.mod_eq_of_lt (d[i].toNat_lt)]
  · rw [List.getElem?_eq_none (by rw [NM.ff_length]; omega), List.getElem?_eq_none (by omega)]
    rfl
theorem one_eq {d : List UInt8} (hd : d.length = 258) : (Bk.blank.setNext (0 + 1)).setPage 0 (NM.wr 258 (Bk.blank.pg.getD 0 []) d) = Bk.one d := by
  show (⟨(NM.wr 258 NM.ff d) :: List.replicate 7 NM.ff, 1, false⟩ : Bk) = _
  rw [wr_full hd]
  rfl
theorem wiped_page (d : List UInt8) (m : Nat) : (wipP m (Bk.one d).pg).getD 0 [] = if m = 0 then d else NM.ff := by
  unfold wipP Bk.one
  cases m with
  | zero => rfl
  | succ m =>
    rw [if_neg (by omega)]
    show (List.replicate (min (m + 1) (7 + 1)) NM.ff ++ _).getD 0 [] = _
    rw [show min (m + 1) (7 + 1) = min m 7 + 1 by omega, List.replicate_succ]
    rfl
/-- a page that is written in part -/
theorem torn_at {d : List UInt8} (hd : d.length = 258) (m i : Nat) (hi : i < 258) : (NM.wr m NM.ff d).getD i 0 = if i < m then d.getD i 0 else 255 := by
  have e := congrArg (fun l => l.getD i 0) (wr_full hd)
  simp only [List.getD_eq_getElem?_getD] at *
  rw [NM.wr_get] at *
  rw [show NM.ff[i]? = some 255 by unfold NM.ff; rw [List.getElem?_replicate, if_pos hi]] at *
  simp only [Option.map_some, Option.getD_some, if_pos hi] at *
  by_cases h : i < m
  · rw [if_pos h, if_pos h]; exact e
  · rw [if_neg h, if_neg h]
theorem u8_and_self (x : UInt8) : x &&& x = x := by
  apply UInt8.toNat_inj.1
  rw [UInt8.toNat_and, Nat.and_self]
theorem u8_and_ff (x : UInt8) : 255 &&& x = x := by
  apply UInt8.toNat_inj.1
  rw [UInt8.toNat_and]
  show 255 &&& _ = _
  rw [Nat.and_comm]
  have := Nat.and_two_pow_sub_one_eq_mod (x.toNat) 8
  rw [show 2 ^ 8 - 1 = 255 from rfl] at this
  rw [this, Nat.mod_eq_of_lt (x.toNat_lt)]
end Go.Proofs.Ytnclefdlmbkjmaa
