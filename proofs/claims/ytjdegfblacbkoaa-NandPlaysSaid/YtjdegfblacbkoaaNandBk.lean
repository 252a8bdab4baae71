/- The program's chip: its blocks as they stand in memory, one behind the other. No condition. -/
import Derived.Test.YtjdegfblacbkoaaNandWrite
namespace Go.Proofs.Ytjdegfblacbkoaa
open Go.RowKit
/-- a block: its pages, the next one, whether it is bad -/
structure Bk where
  pg : List (List UInt8)
  nx : Nat
  bad : Bool
def Bk.ok (b : Bk) : Prop := b.pg.length = 8 ∧ (∀ l ∈ b.pg, l.length = 258) ∧ b.nx ≤ 8
/-- its cells -/
def Bk.row (b : Bk) : List Value := bv b.pg.flatten ++ [.int .i64 (b.nx : Int), .bool b.bad]
def Bk.setPage (b : Bk) (k : Nat) (l : List UInt8) : Bk := { b with pg := b.pg.set k l }
def Bk.setNext (b : Bk) (n : Nat) : Bk := { b with nx := n }
def Bk.setBad (b : Bk) : Bk := { b with bad := true }
section
variable {b : Bk}
theorem Bk.flat (h : b.ok) : b.pg.flatten.length = 2064 := by rw [NM.flat_length _ h.2.1, h.1]
theorem Bk.row_length (h : b.ok) : b.row.length = 2066 := by
  unfold Bk.row
  rw [List.length_append, bv_length, Bk.flat h]
  rfl
theorem Bk.page_length (h : b.ok) {k : Nat} (hk : k < 8) : (b.pg.getD k []).length = 258 := by
  rw [List.getD_eq_getElem?_getD, List.getElem?_eq_getElem (by rw [h.1]; exact hk), Option.getD_some]
  exact h.2.1 _ (List.getElem_mem _)
theorem Bk.getD_eq (h : b.ok) {k : Nat} (hk : k < 8) : b.pg.getD k [] = b.pg[k]'(by rw [h.1]; exact hk) := by
  rw [List.getD_eq_getElem?_getD, List.getElem?_eq_getElem (by rw [h.1]; exact hk), Option.getD_some]
theorem Bk.setPage_ok (h : b.ok) (k : Nat) {l : List UInt8} (hl : l.length = 258) : (b.setPage k l).ok :=
  ⟨by show (b.pg.set k l).length = 8; rw [List.length_set, h.1], NM.set_all h.2.1 k hl, h.2.2⟩
theorem Bk.setNext_ok (h : b.ok) {n : Nat} (hn : n ≤ 8) : (b.setNext n).ok := ⟨h.1, h.2.1, hn⟩
theorem Bk.setBad_ok (h : b.ok) : b.setBad.ok := h
theorem getD_at {X : List UInt8} {i : Nat} (h : i < X.length) : X.getD i 0 = X[i] := by
  rw [List.getD_eq_getElem?_getD, List.getElem?_eq_getElem h, Option.getD_some]
theorem Bk.row_byte (h : b.ok) {k i : Nat} (hk : k < 8) (hi : i < 258) : b.row[k * 258 + i]? = some (.int .u8 ((((b.pg.getD k []).getD i 0).toNat : Nat) : Int)) := by
  have hl := Bk.flat h
  have hp := Bk.page_length h hk
  unfold Bk.row
  rw [List.getElem?_append_left (by rw [bv_length, hl]; omega), bv, List.getElem?_map, NM.flat_get (n := 258) _ h.2.1 k (by rw [h.1]; exact hk) i hi, ← Bk.getD_eq h hk, List.getElem?_eq_getElem (by omega)]
  rw [getD_at (X := b.pg.getD k []) (by omega)]
  rfl
theorem Bk.row_next (h : b.ok) : b.row[2064]? = some (.int .i64 (b.nx : Int)) := by
  unfold Bk.row
  rw [List.getElem?_append_right (by rw [bv_length, Bk.flat h]; omega), bv_length, Bk.flat h]
  rfl
theorem Bk.row_bad (h : b.ok) : b.row[2065]? = some (.bool b.bad) := by
  unfold Bk.row
  rw [List.getElem?_append_right (by rw [bv_length, Bk.flat h]; omega), bv_length, Bk.flat h]
  rfl
theorem Bk.set_byte (h : b.ok) {k i : Nat} (hk : k < 8) (hi : i < 258) (x : UInt8) : b.row.set (k * 258 + i) (.int .u8 ((x.toNat : Nat) : Int)) = (b.setPage k ((b.pg.getD k []).set i x)).row := by
  have hl := Bk.flat h
  have hf := NM.flat_set (n := 258) _ h.2.1 k (by rw [h.1]; exact hk) i x hi
  rw [← Bk.getD_eq h hk] at hf
  unfold Bk.row Bk.setPage
  rw [List.set_append_left _ _ (by rw [bv_length, hl]; omega)]
  simp only
  rw [← hf, bv, bv, List.map_set]
theorem Bk.set_next (h : b.ok) (n : Nat) : b.row.set 2064 (.int .i64 (n : Int)) = (b.setNext n).row := by
  unfold Bk.row Bk.setNext
  rw [List.set_append_right _ _ (by rw [bv_length, Bk.flat h]; omega), bv_length, Bk.flat h]
  rfl
theorem Bk.set_bad (h : b.ok) : b.row.set 2065 (.bool true) = b.setBad.row := by
  unfold Bk.row Bk.setBad
  rw [List.set_append_right _ _ (by rw [bv_length, Bk.flat h]; omega), bv_length, Bk.flat h]
  rfl
end
/-- in block g lie the blocks -/
def BG (w : World) (g : Nat) (Bs : List Bk) : Prop := Blk w g 73 (Bs.map Bk.row).flatten ∧ ∀ b ∈ Bs, b.ok
section
variable {w w' : World} {g : Nat} {Bs : List Bk}
theorem BG.lt (h : BG w g Bs) : g < w.heap.size := h.1.lt
theorem BG.after (h : BG w g Bs) (hb : Below w.heap.size w w') : BG w' g Bs := ⟨h.1.after hb, h.2⟩
theorem BG.alloc (h : BG w g Bs) (o : Obj) : BG (w.alloc o) g Bs := ⟨h.1.alloc o, h.2⟩
theorem BG.drew (h : BG w g Bs) : BG w.drew g Bs := h
theorem BG.grown {row : Option Nat} (h : BG w g Bs) (hg : w.grownBy w' row) (hk : some g ≠ row) : BG w' g Bs := ⟨h.1.grown hg hk, h.2⟩
theorem BG.other (h : BG w g Bs) (a : Addr) (v : Value) (hne : g ≠ a.block) : BG (w.setCell a v) g Bs := ⟨h.1.other a v hne, h.2⟩
theorem BG.free (h : BG w g Bs) (k : Nat) : w.frozen? ⟨g, k, none⟩ = false := h.1.free k
theorem BG.rows (h : BG w g Bs) : ∀ l ∈ Bs.map Bk.row, l.length = 2066 := fun l hl => by
  obtain ⟨b, hb, rfl⟩ := List.mem_map.1 hl
  exact Bk.row_length (h.2 b hb)
theorem BG.at_ (h : BG w g Bs) {b : Nat} (hb : b < Bs.length) : (Bs[b]).ok := h.2 _ (List.getElem_mem hb)
theorem BG.cell (h : BG w g Bs) {b : Nat} (hb : b < Bs.length) {i : Nat} (hi : i < 2066) : w.cell? ⟨g, b * 2066 + i, none⟩ = (Bs[b]).row[i]? := by
  rw [h.1.cell, NM.flat_get (n := 2066) _ h.rows b (by simpa using hb) i hi]
  simp
theorem BG.byte (h : BG w g Bs) {b k i : Nat} (hb : b < Bs.length) (hk : k < 8) (hi : i < 258) : w.cell? ⟨g, b * 2066 + (k * 258 + i), none⟩ = some (.int .u8 ((((Bs[b].pg.getD k []).getD i 0).toNat : Nat) : Int)) := by
  rw [h.cell hb (by omega), Bk.row_byte (h.at_ hb) hk hi]
theorem BG.next (h : BG w g Bs) {b : Nat} (hb : b < Bs.length) : w.cell? ⟨g, b * 2066 + 2064, none⟩ = some (.int .i64 ((Bs[b].nx : Nat) : Int)) := by
  rw [h.cell hb (by omega), Bk.row_next (h.at_ hb)]
theorem BG.bad (h : BG w g Bs) {b : Nat} (hb : b < Bs.length) : w.cell? ⟨g, b * 2066 + 2065, none⟩ = some (.bool Bs[b].bad) := by
  rw [h.cell hb (by omega), Bk.row_bad (h.at_ hb)]
theorem BG.set (h : BG w g Bs) {b : Nat} (hb : b < Bs.length) {i : Nat} (hi : i < 2066) (v : Value) {B' : Bk} (hB : B'.ok) (hr : (Bs[b]).row.set i v = B'.row) : BG (w.setCell ⟨g, b * 2066 + i, none⟩ v) g (Bs.set b B') := by
  have hs := h.1.set (b * 2066 + i) v
  have hf := NM.flat_set (n := 2066) _ h.rows b (by simpa using hb) i v hi
  refine ⟨?_, fun x hx => ?_⟩
  · rw [hf] at hs
    have e : (Bs.map Bk.row).set b (((Bs.map Bk.row)[b]'(by simpa using hb)).set i v) = (Bs.set b B').map Bk.row := by
      rw [List.map_set, List.getElem_map, hr]
    rw [e] at hs
    exact hs
  · rcases List.mem_or_eq_of_mem_set hx with h' | h'
    · exact h.2 x h'
    · rw [h']; exact hB
theorem BG.setByte (h : BG w g Bs) {b k i : Nat} (hb : b < Bs.length) (hk : k < 8) (hi : i < 258) (x : UInt8) : BG (w.setCell ⟨g, b * 2066 + (k * 258 + i), none⟩ (.int .u8 ((x.toNat : Nat) : Int))) g (Bs.set b (Bs[b].setPage k ((Bs[b].pg.getD k []).set i x))) :=
  h.set hb (by omega) _ (Bk.setPage_ok (h.at_ hb) k (by rw [List.length_set, Bk.page_length (h.at_ hb) hk])) (Bk.set_byte (h.at_ hb) hk hi x)
theorem BG.setNext (h : BG w g Bs) {b : Nat} (hb : b < Bs.length) {n : Nat} (hn : n ≤ 8) : BG (w.setCell ⟨g, b * 2066 + 2064, none⟩ (.int .i64 (n : Int))) g (Bs.set b (Bs[b].setNext n)) :=
  h.set hb (by omega) _ (Bk.setNext_ok (h.at_ hb) hn) (Bk.set_next (h.at_ hb) n)
theorem BG.setBad (h : BG w g Bs) {b : Nat} (hb : b < Bs.length) : BG (w.setCell ⟨g, b * 2066 + 2065, none⟩ (.bool true)) g (Bs.set b Bs[b].setBad) :=
  h.set hb (by omega) _ (Bk.setBad_ok (h.at_ hb)) (Bk.set_bad (h.at_ hb))
end
theorem Bk.setPage_self {b : Bk} (h : b.ok) {k : Nat} (hk : k < 8) : b.setPage k (b.pg.getD k []) = b := by
  unfold Bk.setPage
  rw [Bk.getD_eq h hk, List.set_getElem_self]
theorem Bk.setPage_two (b : Bk) (k : Nat) (l m : List UInt8) : (b.setPage k l).setPage k m = b.setPage k m := by
  unfold Bk.setPage
  simp
end Go.Proofs.Ytjdegfblacbkoaa
