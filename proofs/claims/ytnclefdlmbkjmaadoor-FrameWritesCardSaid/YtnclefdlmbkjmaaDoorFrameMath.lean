/- Plain mathematics of records as pages: the page of a record, whether a page is blank, what a page reads as. No program, no condition. -/
import Derived.Test.YtnclefdlmbkjmaaDoorHamMath
import Derived.Test.YtnclefdlmbkjmaaDoorCrcMath
import Derived.Test.YtnclefdlmbkjmaaDoorPackNum
namespace Go.Proofs.YtnclefdlmbkjmaaDoor.FM
open Go

/-- the first 252 bytes of a record's data -/
def rec252 (kind : UInt8) (body : List UInt8) : List UInt8 := kind :: UInt8.ofNat body.length :: (body ++ List.replicate (250 - body.length) 0)
/-- a record's data -/
def dat (kind : UInt8) (body : List UInt8) : List UInt8 := rec252 kind body ++ numB 4 (CM.on 0 (rec252 kind body))
/-- a record's page -/
def page (kind : UInt8) (body : List UInt8) : List UInt8 := dat kind body ++ [UInt8.ofNat (HM.ck (dat kind body)), UInt8.ofNat (HM.ck (dat kind body) / 256)]
theorem rec252_length (kind : UInt8) (body : List UInt8) (h : body.length ≤ 240) : (rec252 kind body).length = 252 := by
  simp [rec252]
  omega
theorem dat_length (kind : UInt8) (body : List UInt8) (h : body.length ≤ 240) : (dat kind body).length = 256 := by
  unfold dat
  rw [List.length_append, rec252_length kind body h, numB_length]
theorem page_length (kind : UInt8) (body : List UInt8) (h : body.length ≤ 240) : (page kind body).length = 258 := by
  unfold page
  rw [List.length_append, dat_length kind body h]
  rfl
/-- what Write answers: a page, and the error's number -/
def writeM (kind : UInt8) (body : List UInt8) : List UInt8 × Nat :=
  if kind = 0 ∨ kind = 255 ∨ 240 < body.length then (List.replicate 258 0, 1) else (page kind body, 0)
/-- how many of the first n bits are 0 -/
def zc (p : List UInt8) : Nat → Nat
  | 0 => 0
  | n + 1 => zc p n + (1 - HM.bt p n)
theorem zc_le (p : List UInt8) : ∀ n, zc p n ≤ n
  | 0 => by simp [zc]
  | n + 1 => by
    have := zc_le p n
    have e : zc p (n + 1) = zc p n + (1 - HM.bt p n) := rfl
    omega
def blank (p : List UInt8) : Bool := decide (zc p 2064 < 2)
/-- how many of the three highest bits of the last byte are 1 -/
def above (p : List UInt8) : Nat := HM.popT ((p.getD 257 0).toNat / 32) 3
def chk (p : List UInt8) : Nat := (p.getD 256 0).toNat + 256 * (p.getD 257 0).toNat
/-- from the place a on all of the first 252 bytes are noughts -/
def nought (x : List UInt8) (a : Nat) : Bool := (List.range 252).all fun i => decide (i < a) || x.getD i 0 == 0
theorem nought_iff (x : List UInt8) (a : Nat) : nought x a = true ↔ ∀ i, i < 252 → a ≤ i → x.getD i 0 = 0 := by
  unfold nought
  rw [List.all_eq_true]
  constructor
  · intro h i hi ha
    have := h i (List.mem_range.2 hi)
    simp only [Bool.or_eq_true, decide_eq_true_eq, beq_iff_eq] at this
    rcases this with e | e
    · omega
    · exact e
  · intro h i hi
    simp only [Bool.or_eq_true, decide_eq_true_eq, beq_iff_eq]
    by_cases ha : i < a
    · exact .inl ha
    · exact .inr (h i (List.mem_range.1 hi) (by omega))
/-- what a record's data read as, when so many bits were mended -/
def openM (x : List UInt8) (n : Nat) : UInt8 × List UInt8 × Nat × Nat :=
  if 240 < (x.getD 1 0).toNat ∨ x.getD 0 0 = 0 ∨ x.getD 0 0 = 255 then (0, [], 0, 21)
  else if nought x (2 + (x.getD 1 0).toNat) = true then
    (if numB 4 (CM.on 0 (x.take 252)) = x.drop 252 then (x.getD 0 0, (x.drop 2).take (x.getD 1 0).toNat, n, 0) else (0, [], 0, 21))
  else (0, [], 0, 21)
/-- what Read answers: kind, body, how many bits were mended, the error's number -/
def readM (p : List UInt8) : UInt8 × List UInt8 × Nat × Nat :=
  if blank p = true then (0, [], 0, 20)
  else if 1 < above p then (0, [], 0, 21)
  else if (HM.fixM (p.take 256) (chk p)).2.2 ≠ 0 then (0, [], 0, 21)
  else openM (HM.fixM (p.take 256) (chk p)).1 ((HM.fixM (p.take 256) (chk p)).2.1 + above p)
/-- an array filled place by place -/
def fill (pre src : List UInt8) (tot k : Nat) : List UInt8 := pre ++ (src.take k ++ List.replicate (tot - k) 0)
theorem fill_length (pre src : List UInt8) (tot k : Nat) (hk : k ≤ src.length) (ht : src.length ≤ tot) : (fill pre src tot k).length = pre.length + tot := by
  simp [fill]
  omega
theorem fill_set (pre src : List UInt8) (tot k : Nat) (hk : k < src.length) (ht : src.length ≤ tot) (i : Nat) (hi : i = pre.length + k) : (fill pre src tot k).set i src[k] = fill pre src tot (k + 1) := by
  subst hi
  unfold fill
  rw [List.set_append_right _ _ (Nat.le_add_right _ _), Nat.add_sub_cancel_left]
  congr 1
  have e : tot - k = (tot - (k + 1)) + 1 := by omega
  rw [e, List.replicate_succ, List.set_append_right _ _ (by rw [List.length_take]; omega), List.length_take, Nat.min_eq_left (by omega), Nat.sub_self, List.set_cons_zero, List.take_succ_eq_append_getElem hk, List.append_assoc]
  rfl
theorem fill_zero (pre src : List UInt8) (tot : Nat) : fill pre src tot 0 = pre ++ List.replicate tot 0 := by simp [fill]
theorem fill_all (pre src : List UInt8) (tot : Nat) : fill pre src tot src.length = pre ++ (src ++ List.replicate (tot - src.length) 0) := by simp [fill]
theorem zeros_two (a b : UInt8) (body : List UInt8) : (HM.zeros.set 0 a).set 1 b = fill [a, b] body 254 0 := by
  rw [fill_zero]
  rfl
theorem fill_rec (kind : UInt8) (body sum : List UInt8) (h : body.length ≤ 240) : fill [kind, UInt8.ofNat body.length] body 254 body.length = fill (rec252 kind body) sum 4 0 := by
  rw [fill_all, fill_zero]
  unfold rec252
  have e : 254 - body.length = (250 - body.length) + 4 := by omega
  rw [e, ← List.replicate_append_replicate]
  simp
theorem fill_dat (kind : UInt8) (body : List UInt8) : fill (rec252 kind body) (numB 4 (CM.on 0 (rec252 kind body))) 4 4 = dat kind body := by
  have := fill_all (rec252 kind body) (numB 4 (CM.on 0 (rec252 kind body))) 4
  rw [numB_length] at this
  rw [this]
  simp [dat]
theorem fill_page (kind : UInt8) (body : List UInt8) (h : body.length ≤ 240) (a b : UInt8) : ((fill [] (dat kind body) 258 256).set 256 a).set 257 b = dat kind body ++ [a, b] := by
  have e := fill_all [] (dat kind body) 258
  rw [dat_length kind body h] at e
  rw [e, List.nil_append, List.set_append_right _ _ (by rw [dat_length kind body h]; omega), List.set_append_right _ _ (by rw [dat_length kind body h]; omega), dat_length kind body h]
  rfl
end Go.Proofs.YtnclefdlmbkjmaaDoor.FM
