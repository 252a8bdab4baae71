/- Several texts of the proof, joined: what each has is said at its head. -/
import Derived.Test.YtdiocjneakfdgaaGreatDoorQCore
import Derived.Test.YtdiocjneakfdgaaGreatDoorProg
import Derived.Deep.MidRow
/- The plain mathematics of layer 4: the power. No condition, no program. -/
namespace Go.Proofs.YtdiocjneakfdgaaGreatDoor
open Go.RowKit
namespace NM
/-- the power: whether it is off, how many acts it lasts for (below 0: for all), what is kept -/
structure Pwr where
  off : Bool
  after : Int
  keep : Int
/-- it lasts -/
def Pwr.new : Pwr := ⟨false, -1, 0⟩
def Pwr.cut (p : Pwr) (after keep : Int) : Pwr := ⟨p.off, if after < 0 then -1 else after, keep⟩
def Pwr.on (p : Pwr) : Pwr := ⟨false, -1, p.keep⟩
/-- an act: the power behind it; does it end in it? -/
def Pwr.act (p : Pwr) : Pwr × Bool := if p.after < 0 then (p, false) else (⟨p.off || p.after == 0, p.after - 1, p.keep⟩, p.off || p.after == 0)
/-- its numbers are numbers of the machine -/
def Pwr.fits (p : Pwr) : Prop := -9223372036854775808 ≤ p.after ∧ p.after < 9223372036854775808
def Pwr.cells (p : Pwr) : List Value := [.bool p.off, .int .i64 p.after, .int .i64 p.keep]
theorem Pwr.act_fits {p : Pwr} (h : p.fits) : p.act.1.fits := by
  unfold Pwr.act Pwr.fits at *
  split
  · exact h
  · simp only; omega
/-! ### Rows of rows of one length, laid flat -/
section
variable {α : Type} {n : Nat}
theorem flat_length : ∀ (Ls : List (List α)), (∀ l ∈ Ls, l.length = n) → Ls.flatten.length = Ls.length * n
  | [], _ => by simp
  | l :: Ls, h => by
    rw [List.flatten_cons, List.length_append, h l (by simp), flat_length Ls (fun m hm => h m (by simp [hm])), List.length_cons, Nat.succ_mul]; omega
theorem flat_get : ∀ (Ls : List (List α)), (∀ l ∈ Ls, l.length = n) → ∀ (k : Nat) (hk : k < Ls.length) (i : Nat), i < n → Ls.flatten[k * n + i]? = (Ls[k])[i]?
  | l :: Ls, h, 0, _, i, hi => by
    have hl := h l (by simp)
    rw [List.flatten_cons, Nat.zero_mul, Nat.zero_add, List.getElem?_append_left (by omega)]
    rfl
  | l :: Ls, h, k + 1, hk, i, hi => by
    have hl := h l (by simp)
    have e : (k + 1) * n + i = l.length + (k * n + i) := by rw [Nat.succ_mul, hl]; omega
    rw [List.flatten_cons, e, List.getElem?_append_right (Nat.le_add_right _ _), Nat.add_sub_cancel_left, flat_get Ls (fun m hm => h m (by simp [hm])) k (by simpa using hk) i hi]
    rfl
theorem flat_set : ∀ (Ls : List (List α)), (∀ l ∈ Ls, l.length = n) → ∀ (k : Nat) (hk : k < Ls.length) (i : Nat) (b : α), i < n → Ls.flatten.set (k * n + i) b = (Ls.set k ((Ls[k]).set i b)).flatten
  | l :: Ls, h, 0, _, i, b, hi => by
    have hl := h l (by simp)
    rw [List.flatten_cons, Nat.zero_mul, Nat.zero_add, List.set_append_left _ _ (by omega)]
    rfl
  | l :: Ls, h, k + 1, hk, i, b, hi => by
    have hl := h l (by simp)
    have e : (k + 1) * n + i = l.length + (k * n + i) := by rw [Nat.succ_mul, hl]; omega
    rw [List.flatten_cons, e, List.set_append_right _ _ (Nat.le_add_right _ _), Nat.add_sub_cancel_left, flat_set Ls (fun m hm => h m (by simp [hm])) k (by simpa using hk) i b hi]
    rfl
theorem set_all {Ls : List (List α)} (h : ∀ l ∈ Ls, l.length = n) (k : Nat) {l' : List α} (hl : l'.length = n) : ∀ l ∈ Ls.set k l', l.length = n := fun l hm => by
  rcases List.mem_or_eq_of_mem_set hm with h' | h'
  · exact h l h'
  · rw [h']; exact hl
end
/-- the first k bytes of a page with the data's bits that are nought -/
def wr (k : Nat) (L d : List UInt8) : List UInt8 := L.zipIdx.map fun x => if x.2 < k then x.1 &&& d.getD x.2 0 else x.1
theorem wr_length (k : Nat) (L d : List UInt8) : (wr k L d).length = L.length := by simp [wr]
theorem wr_get (k : Nat) (L d : List UInt8) (i : Nat) : (wr k L d)[i]? = (L[i]?).map fun b => if i < k then b &&& d.getD i 0 else b := by
  simp [wr, List.getElem?_zipIdx, Option.map_map, Function.comp_def]
theorem wr_zero (L d : List UInt8) : wr 0 L d = L := by
  apply List.ext_getElem?
  intro i
  rw [wr_get]
  simp
theorem wr_step {k : Nat} {L d : List UInt8} (hk : k < L.length) : (wr k L d).set k (L[k] &&& d.getD k 0) = wr (k + 1) L d := by
  apply List.ext_getElem?
  intro i
  rw [List.getElem?_set, wr_get, wr_get, wr_length]
  by_cases e : k = i
  · subst e
    simp [hk]
  · rw [if_neg e]
    congr 1
    funext b
    have : (i < k) ↔ (i < k + 1) := by omega
    simp [this]
/-- the first k bytes are 255 -/
def wip (k : Nat) (L : List UInt8) : List UInt8 := List.replicate (min k L.length) 255 ++ L.drop k
theorem wip_length (k : Nat) (L : List UInt8) : (wip k L).length = L.length := by simp [wip]; omega
theorem wip_zero (L : List UInt8) : wip 0 L = L := by simp [wip]
theorem wip_all {L : List UInt8} {k : Nat} (h : L.length ≤ k) : wip k L = List.replicate L.length 255 := by
  unfold wip
  rw [List.drop_of_length_le h, Nat.min_eq_right h, List.append_nil]
theorem wip_get (k : Nat) (L : List UInt8) (i : Nat) : (wip k L)[i]? = (L[i]?).map fun b => if i < k then 255 else b := by
  unfold wip
  rcases Nat.lt_or_ge i L.length with h | h
  · rw [List.getElem?_eq_getElem h]
    by_cases e : i < k
    · rw [List.getElem?_append_left (by simp; omega)]
      simp [List.getElem?_replicate, e]
      omega
    · rw [List.getElem?_append_right (by simp; omega)]
      simp only [List.length_replicate, List.getElem?_drop, Option.map_some, if_neg e]
      rw [show k + (i - min k L.length) = i by omega, List.getElem?_eq_getElem h]
  · rw [List.getElem?_eq_none (by simp; omega), List.getElem?_eq_none h]; rfl
theorem wip_step {k : Nat} {L : List UInt8} (hk : k < L.length) : (wip k L).set k 255 = wip (k + 1) L := by
  apply List.ext_getElem?
  intro i
  rw [List.getElem?_set, wip_get, wip_get, wip_length]
  by_cases e : k = i
  · subst e
    simp [hk]
  · rw [if_neg e]
    congr 1
    funext b
    have : (i < k) ↔ (i < k + 1) := by omega
    simp [this]
/-- a blank page -/
def ff : List UInt8 := List.replicate 258 255
theorem ff_length : ff.length = 258 := List.length_replicate
theorem wip_ff {L : List UInt8} (h : L.length = 258) : wip 258 L = ff := by rw [wip_all (by omega), h]; rfl
/-- the first k pages of a block are blank -/
def blanks (b k : Nat) (Ls : List (List UInt8)) : List (List UInt8) := Ls.zipIdx.map fun x => if 8 * b ≤ x.2 ∧ x.2 < 8 * b + k then ff else x.1
/-- the page with one bit turned -/
def fl (L : List UInt8) (i : Nat) : List UInt8 := L.set (i / 8) ((L.getD (i / 8) 0) ^^^ UInt8.ofNat (2 ^ (i % 8)))
/-- a number between nought and eight -/
def clip8 (n : Int) : Nat := (min (max n 0) 8).toNat
end NM
end Go.Proofs.YtdiocjneakfdgaaGreatDoor

/- The contracts of the reference's power. No condition but that the number of acts is one of the machine. -/
namespace Go.Proofs.YtdiocjneakfdgaaGreatDoor
open Go.RowKit
theorem int_one (w : World) : (sizeOf 3).run Tryz.prog w = .ok 1 w := by kernel_rfl
theorem bool_one (w : World) : (sizeOf 4).run Tryz.prog w = .ok 1 w := by kernel_rfl
theorem int_flat (w : World) : (isAgg 3).run Tryz.prog w = .ok false w := by kernel_rfl
theorem bool_flat (w : World) : (isAgg 4).run Tryz.prog w = .ok false w := by kernel_rfl
end Go.Proofs.YtdiocjneakfdgaaGreatDoor

/- The contract of the reference's write: the first bytes of a page with the data's noughts. No condition but that the page is there. -/
namespace Go.Proofs.YtdiocjneakfdgaaGreatDoor
open Go.RowKit
/-- in block g lie the pages, one behind the other -/
def Pgs (w : World) (g : Nat) (Ls : List (List UInt8)) : Prop := Blk w g 92 (bv Ls.flatten) ∧ ∀ l ∈ Ls, l.length = 258
theorem u8_and (x y : UInt8) : bits .and .u8 ((x.toNat : Nat) : Int) ((y.toNat : Nat) : Int) = (((x &&& y).toNat : Nat) : Int) := by
  rw [UInt8.toNat_and]
  exact u8_and_nat _ _ x.toNat_lt y.toNat_lt
end Go.Proofs.YtdiocjneakfdgaaGreatDoor

/- The program's chip: its blocks as they stand in memory, one behind the other. No condition. -/
namespace Go.Proofs.YtdiocjneakfdgaaGreatDoor
open Go.RowKit
/-- a block: its pages, the next one, whether it is bad -/
structure Bk where
  pg : List (List UInt8)
  nx : Nat
  bad : Bool
def Bk.ok (b : Bk) : Prop := b.pg.length = 8 ∧ (∀ l ∈ b.pg, l.length = 258) ∧ b.nx ≤ 8
/-- its cells -/
def Bk.row (b : Bk) : List Value := bv b.pg.flatten ++ [.int .i64 (b.nx : Int), .bool b.bad]
def Bk.setPage (b : Bk) (k : Nat) (l : List UInt8) : Bk := { b with pg := b.pg.set k l }
def Bk.setNext (b : Bk) (n : Nat) : Bk := { b with nx := n }
def Bk.setBad (b : Bk) : Bk := { b with bad := true }
section
variable {b : Bk}
theorem Bk.flat (h : b.ok) : b.pg.flatten.length = 2064 := by rw [NM.flat_length _ h.2.1, h.1]
theorem Bk.row_length (h : b.ok) : b.row.length = 2066 := by
  unfold Bk.row
  rw [List.length_append, bv_length, Bk.flat h]
  rfl
theorem Bk.page_length (h : b.ok) {k : Nat} (hk : k < 8) : (b.pg.getD k []).length = 258 := by
  rw [List.getD_eq_getElem?_getD, List.getElem?_eq_getElem (by rw [h.1]; exact hk), Option.getD_some]
  exact h.2.1 _ (List.getElem_mem _)
theorem Bk.getD_eq (h : b.ok) {k : Nat} (hk : k < 8) : b.pg.getD k [] = b.pg[k]'(by rw [h.1]; exact hk) := by
  rw [List.getD_eq_getElem?_getD, List.getElem?_eq_getElem (by rw [h.1]; exact hk), Option.getD_some]
theorem Bk.setPage_ok (h : b.ok) (k : Nat) {l : List UInt8} (hl : l.length = 258) : (b.setPage k l).ok :=
  ⟨by show (b.pg.set k l).length = 8; rw [List.length_set, h.1], NM.set_all h.2.1 k hl, h.2.2⟩
theorem Bk.setNext_ok (h : b.ok) {n : Nat} (hn : n ≤ 8) : (b.setNext n).ok := ⟨h.1, h.2.1, hn⟩
theorem Bk.setBad_ok (h : b.ok) : b.setBad.ok := h
theorem getD_at {X : List UInt8} {i : Nat} (h : i < X.length) : X.getD i 0 = X[i] := by
  rw [List.getD_eq_getElem?_getD, List.getElem?_eq_getElem h, Option.getD_some]
theorem Bk.row_byte (h : b.ok) {k i : Nat} (hk : k < 8) (hi : i < 258) : b.row[k * 258 + i]? = some (.int .u8 ((((b.pg.getD k []).getD i 0).toNat : Nat) : Int)) := by
  have hl := Bk.flat h
  have hp := Bk.page_length h hk
  unfold Bk.row
  rw [List.getElem?_append_left (by rw [bv_length, hl]; omega), bv, List.getElem?_map, NM.flat_get (n := 258) _ h.2.1 k (by rw [h.1]; exact hk) i hi, ← Bk.getD_eq h hk, List.getElem?_eq_getElem (by omega)]
  rw [getD_at (X := b.pg.getD k []) (by omega)]
  rfl
theorem Bk.row_next (h : b.ok) : b.row[2064]? = some (.int .i64 (b.nx : Int)) := by
  unfold Bk.row
  rw [List.getElem?_append_right (by rw [bv_length, Bk.flat h]; omega), bv_length, Bk.flat h]
  rfl
theorem Bk.row_bad (h : b.ok) : b.row[2065]? = some (.bool b.bad) := by
  unfold Bk.row
  rw [List.getElem?_append_right (by rw [bv_length, Bk.flat h]; omega), bv_length, Bk.flat h]
  rfl
theorem Bk.set_byte (h : b.ok) {k i : Nat} (hk : k < 8) (hi : i < 258) (x : UInt8) : b.row.set (k * 258 + i) (.int .u8 ((x.toNat : Nat) : Int)) = (b.setPage k ((b.pg.getD k []).set i x)).row := by
  have hl := Bk.flat h
  have hf := NM.flat_set (n := 258) _ h.2.1 k (by rw [h.1]; exact hk) i x hi
  rw [← Bk.getD_eq h hk] at hf
  unfold Bk.row Bk.setPage
  rw [List.set_append_left _ _ (by rw [bv_length, hl]; omega)]
  simp only
  rw [← hf, bv, bv, List.map_set]
theorem Bk.set_next (h : b.ok) (n : Nat) : b.row.set 2064 (.int .i64 (n : Int)) = (b.setNext n).row := by
  unfold Bk.row Bk.setNext
  rw [List.set_append_right _ _ (by rw [bv_length, Bk.flat h]; omega), bv_length, Bk.flat h]
  rfl
theorem Bk.set_bad (h : b.ok) : b.row.set 2065 (.bool true) = b.setBad.row := by
  unfold Bk.row Bk.setBad
  rw [List.set_append_right _ _ (by rw [bv_length, Bk.flat h]; omega), bv_length, Bk.flat h]
  rfl
end
/-- in block g lie the blocks -/
def BG (w : World) (g : Nat) (Bs : List Bk) : Prop := Blk w g 103 (Bs.map Bk.row).flatten ∧ ∀ b ∈ Bs, b.ok
section
variable {w w' : World} {g : Nat} {Bs : List Bk}
theorem BG.lt (h : BG w g Bs) : g < w.heap.size := h.1.lt
theorem BG.alloc (h : BG w g Bs) (o : Obj) : BG (w.alloc o) g Bs := ⟨h.1.alloc o, h.2⟩
theorem BG.drew (h : BG w g Bs) : BG w.drew g Bs := h
theorem BG.free (h : BG w g Bs) (k : Nat) : w.frozen? ⟨g, k, none⟩ = false := h.1.free k
theorem BG.rows (h : BG w g Bs) : ∀ l ∈ Bs.map Bk.row, l.length = 2066 := fun l hl => by
  obtain ⟨b, hb, rfl⟩ := List.mem_map.1 hl
  exact Bk.row_length (h.2 b hb)
theorem BG.at_ (h : BG w g Bs) {b : Nat} (hb : b < Bs.length) : (Bs[b]).ok := h.2 _ (List.getElem_mem hb)
theorem BG.cell (h : BG w g Bs) {b : Nat} (hb : b < Bs.length) {i : Nat} (hi : i < 2066) : w.cell? ⟨g, b * 2066 + i, none⟩ = (Bs[b]).row[i]? := by
  rw [h.1.cell, NM.flat_get (n := 2066) _ h.rows b (by simpa using hb) i hi]
  simp
theorem BG.byte (h : BG w g Bs) {b k i : Nat} (hb : b < Bs.length) (hk : k < 8) (hi : i < 258) : w.cell? ⟨g, b * 2066 + (k * 258 + i), none⟩ = some (.int .u8 ((((Bs[b].pg.getD k []).getD i 0).toNat : Nat) : Int)) := by
  rw [h.cell hb (by omega), Bk.row_byte (h.at_ hb) hk hi]
theorem BG.next (h : BG w g Bs) {b : Nat} (hb : b < Bs.length) : w.cell? ⟨g, b * 2066 + 2064, none⟩ = some (.int .i64 ((Bs[b].nx : Nat) : Int)) := by
  rw [h.cell hb (by omega), Bk.row_next (h.at_ hb)]
theorem BG.bad (h : BG w g Bs) {b : Nat} (hb : b < Bs.length) : w.cell? ⟨g, b * 2066 + 2065, none⟩ = some (.bool Bs[b].bad) := by
  rw [h.cell hb (by omega), Bk.row_bad (h.at_ hb)]
theorem BG.set (h : BG w g Bs) {b : Nat} (hb : b < Bs.length) {i : Nat} (hi : i < 2066) (v : Value) {B' : Bk} (hB : B'.ok) (hr : (Bs[b]).row.set i v = B'.row) : BG (w.setCell ⟨g, b * 2066 + i, none⟩ v) g (Bs.set b B') := by
  have hs := h.1.set (b * 2066 + i) v
  have hf := NM.flat_set (n := 2066) _ h.rows b (by simpa using hb) i v hi
  refine ⟨?_, fun x hx => ?_⟩
  · rw [hf] at hs
    have e : (Bs.map Bk.row).set b (((Bs.map Bk.row)[b]'(by simpa using hb)).set i v) = (Bs.set b B').map Bk.row := by
      rw [List.map_set, List.getElem_map, hr]
    rw [e] at hs
    exact hs
  · rcases List.mem_or_eq_of_mem_set hx with h' | h'
    · exact h.2 x h'
    · rw [h']; exact hB
theorem BG.setByte (h : BG w g Bs) {b k i : Nat} (hb : b < Bs.length) (hk : k < 8) (hi : i < 258) (x : UInt8) : BG (w.setCell ⟨g, b * 2066 + (k * 258 + i), none⟩ (.int .u8 ((x.toNat : Nat) : Int))) g (Bs.set b (Bs[b].setPage k ((Bs[b].pg.getD k []).set i x))) :=
  h.set hb (by omega) _ (Bk.setPage_ok (h.at_ hb) k (by rw [List.length_set, Bk.page_length (h.at_ hb) hk])) (Bk.set_byte (h.at_ hb) hk hi x)
theorem BG.setNext (h : BG w g Bs) {b : Nat} (hb : b < Bs.length) {n : Nat} (hn : n ≤ 8) : BG (w.setCell ⟨g, b * 2066 + 2064, none⟩ (.int .i64 (n : Int))) g (Bs.set b (Bs[b].setNext n)) :=
  h.set hb (by omega) _ (Bk.setNext_ok (h.at_ hb) hn) (Bk.set_next (h.at_ hb) n)
theorem BG.setBad (h : BG w g Bs) {b : Nat} (hb : b < Bs.length) : BG (w.setCell ⟨g, b * 2066 + 2065, none⟩ (.bool true)) g (Bs.set b Bs[b].setBad) :=
  h.set hb (by omega) _ (Bk.setBad_ok (h.at_ hb)) (Bk.set_bad (h.at_ hb))
end
theorem Bk.setPage_self {b : Bk} (h : b.ok) {k : Nat} (hk : k < 8) : b.setPage k (b.pg.getD k []) = b := by
  unfold Bk.setPage
  rw [Bk.getD_eq h hk, List.set_getElem_self]
theorem Bk.setPage_two (b : Bk) (k : Nat) (l m : List UInt8) : (b.setPage k l).setPage k m = b.setPage k m := by
  unfold Bk.setPage
  simp
end Go.Proofs.YtdiocjneakfdgaaGreatDoor

/- The contracts of the reference's Live and may: they only read. No condition but what the chip's block holds. -/
namespace Go.Proofs.YtdiocjneakfdgaaGreatDoor
open Go.RowKit
/-- may a page of so many blocks be asked for? the error's number -/
def NM.may (off live : Bool) (M b k : Int) : Int := if off then 30 else if live then (if b < 0 ∨ M ≤ b ∨ k < 0 ∨ 7 < k then 1 else 0) else 31
end Go.Proofs.YtdiocjneakfdgaaGreatDoor

/- The contract of the reference's Read: the page and the error's number; nothing that was there is changed. No condition but what the chip's block holds. -/
namespace Go.Proofs.YtdiocjneakfdgaaGreatDoor
open Go.RowKit
/-- what Read answers -/
def NM.readPage (Ls : List (List UInt8)) (e : Int) (b k : Int) : List UInt8 := if e = 0 then Ls.getD (8 * b + k).toNat [] else pzeros
end Go.Proofs.YtdiocjneakfdgaaGreatDoor

