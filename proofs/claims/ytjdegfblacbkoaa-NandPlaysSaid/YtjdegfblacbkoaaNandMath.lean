/- The plain mathematics of layer 4: the power. No condition, no program. -/
import Derived.Test.YtjdegfblacbkoaaBase
namespace Go.Proofs.Ytjdegfblacbkoaa
open Go.RowKit
namespace NM
/-- the power: whether it is off, how many acts it lasts for (below 0: for all), what is kept -/
structure Pwr where
  off : Bool
  after : Int
  keep : Int
/-- it lasts -/
def Pwr.new : Pwr := ⟨false, -1, 0⟩
def Pwr.cut (p : Pwr) (after keep : Int) : Pwr := ⟨p.off, if after < 0 then -1 else after, keep⟩
def Pwr.on (p : Pwr) : Pwr := ⟨false, -1, p.keep⟩
/-- an act: the power behind it; does it end in it? -/
def Pwr.act (p : Pwr) : Pwr × Bool := if p.after < 0 then (p, false) else (⟨p.off || p.after == 0, p.after - 1, p.keep⟩, p.off || p.after == 0)
/-- its numbers are numbers of the machine -/
def Pwr.fits (p : Pwr) : Prop := -9223372036854775808 ≤ p.after ∧ p.after < 9223372036854775808
def Pwr.cells (p : Pwr) : List Value := [.bool p.off, .int .i64 p.after, .int .i64 p.keep]
theorem Pwr.act_fits {p : Pwr} (h : p.fits) : p.act.1.fits := by
  unfold Pwr.act Pwr.fits at *
  split
  · exact h
  · simp only; omega
/-! ### Rows of rows of one length, laid flat -/
section
variable {α : Type} {n : Nat}
theorem flat_length : ∀ (Ls : List (List α)), (∀ l ∈ Ls, l.length = n) → Ls.flatten.length = Ls.length * n
  | [], _ => by simp
  | l :: Ls, h => by
    rw [List.flatten_cons, List.length_append, h l (by simp), flat_length Ls (fun m hm => h m (by simp [hm])), List.length_cons, Nat.succ_mul]; omega
theorem flat_get : ∀ (Ls : List (List α)), (∀ l ∈ Ls, l.length = n) → ∀ (k : Nat) (hk : k < Ls.length) (i : Nat), i < n → Ls.flatten[k * n + i]? = (Ls[k])[i]?
  | l :: Ls, h, 0, _, i, hi => by
    have hl := h l (by simp)
    rw [List.flatten_cons, Nat.zero_mul, Nat.zero_add, List.getElem?_append_left (by omega)]
    rfl
  | l :: Ls, h, k + 1, hk, i, hi => by
    have hl := h l (by simp)
    have e : (k + 1) * n + i = l.length + (k * n + i) := by rw [Nat.succ_mul, hl]; omega
    rw [List.flatten_cons, e, List.getElem?_append_right (Nat.le_add_right _ _), Nat.add_sub_cancel_left, flat_get Ls (fun m hm => h m (by simp [hm])) k (by simpa using hk) i hi]
    rfl
theorem flat_set : ∀ (Ls : List (List α)), (∀ l ∈ Ls, l.length = n) → ∀ (k : Nat) (hk : k < Ls.length) (i : Nat) (b : α), i < n → Ls.flatten.set (k * n + i) b = (Ls.set k ((Ls[k]).set i b)).flatten
  | l :: Ls, h, 0, _, i, b, hi => by
    have hl := h l (by simp)
    rw [List.flatten_cons, Nat.zero_mul, Nat.zero_add, List.set_append_left _ _ (by omega)]
    rfl
  | l :: Ls, h, k + 1, hk, i, b, hi => by
    have hl := h l (by simp)
    have e : (k + 1) * n + i = l.length + (k * n + i) := by rw [Nat.succ_mul, hl]; omega
    rw [List.flatten_cons, e, List.set_append_right _ _ (Nat.le_add_right _ _), Nat.add_sub_cancel_left, flat_set Ls (fun m hm => h m (by simp [hm])) k (by simpa using hk) i b hi]
    rfl
theorem set_all {Ls : List (List α)} (h : ∀ l ∈ Ls, l.length = n) (k : Nat) {l' : List α} (hl : l'.length = n) : ∀ l ∈ Ls.set k l', l.length = n := fun l hm => by
  rcases List.mem_or_eq_of_mem_set hm with h' | h'
  · exact h l h'
  · rw [h']; exact hl
end
/-- the first k bytes of a page with the data's bits that are nought -/
def wr (k : Nat) (L d : List UInt8) : List UInt8 := L.zipIdx.map fun x => if x.2 < k then x.1 &&& d.getD x.2 0 else x.1
theorem wr_length (k : Nat) (L d : List UInt8) : (wr k L d).length = L.length := by simp [wr]
theorem wr_get (k : Nat) (L d : List UInt8) (i : Nat) : (wr k L d)[i]? = (L[i]?).map fun b => if i < k then b &&& d.getD i 0 else b := by
  simp [wr, List.getElem?_zipIdx, Option.map_map, Function.comp_def]
theorem wr_zero (L d : List UInt8) : wr 0 L d = L := by
  apply List.ext_getElem?
  intro i
  rw [wr_get]
  simp
theorem wr_step {k : Nat} {L d : List UInt8} (hk : k < L.length) : (wr k L d).set k (L[k] &&& d.getD k 0) = wr (k + 1) L d := by
  apply List.ext_getElem?
  intro i
  rw [List.getElem?_set, wr_get, wr_get, wr_length]
  by_cases e : k = i
  · subst e
    simp [hk]
  · rw [if_neg e]
    congr 1
    funext b
    have : (i < k) ↔ (i < k + 1) := by omega
    simp [this]
/-- the first k bytes are 255 -/
def wip (k : Nat) (L : List UInt8) : List UInt8 := List.replicate (min k L.length) 255 ++ L.drop k
theorem wip_length (k : Nat) (L : List UInt8) : (wip k L).length = L.length := by simp [wip]; omega
theorem wip_zero (L : List UInt8) : wip 0 L = L := by simp [wip]
theorem wip_all {L : List UInt8} {k : Nat} (h : L.length ≤ k) : wip k L = List.replicate L.length 255 := by
  unfold wip
  rw [List.drop_of_length_le h, Nat.min_eq_right h, List.append_nil]
theorem wip_get (k : Nat) (L : List UInt8) (i : Nat) : (wip k L)[i]? = (L[i]?).map fun b => if i < k then 255 else b := by
  unfold wip
  rcases Nat.lt_or_ge i L.length with h | h
  · rw [List.getElem?_eq_getElem h]
    by_cases e : i < k
    · rw [List.getElem?_append_left (by simp; omega)]
      simp [List.getElem?_replicate, e]
      omega
    · rw [List.getElem?_append_right (by simp; omega)]
      simp only [List.length_replicate, List.getElem?_drop, Option.map_some, if_neg e]
      rw [show k + (i - min k L.length) = i by omega, List.getElem?_eq_getElem h]
  · rw [List.getElem?_eq_none (by simp; omega), List.getElem?_eq_none h]; rfl
theorem wip_step {k : Nat} {L : List UInt8} (hk : k < L.length) : (wip k L).set k 255 = wip (k + 1) L := by
  apply List.ext_getElem?
  intro i
  rw [List.getElem?_set, wip_get, wip_get, wip_length]
  by_cases e : k = i
  · subst e
    simp [hk]
  · rw [if_neg e]
    congr 1
    funext b
    have : (i < k) ↔ (i < k + 1) := by omega
    simp [this]
/-- a blank page -/
def ff : List UInt8 := List.replicate 258 255
theorem ff_length : ff.length = 258 := List.length_replicate
theorem wip_ff {L : List UInt8} (h : L.length = 258) : wip 258 L = ff := by rw [wip_all (by omega), h]; rfl
/-- the first k pages of a block are blank -/
def blanks (b k : Nat) (Ls : List (List UInt8)) : List (List UInt8) := Ls.zipIdx.map fun x => if 8 * b ≤ x.2 ∧ x.2 < 8 * b + k then ff else x.1
theorem blanks_length (b k : Nat) (Ls : List (List UInt8)) : (blanks b k Ls).length = Ls.length := by simp [blanks]
theorem blanks_get (b k : Nat) (Ls : List (List UInt8)) (i : Nat) : (blanks b k Ls)[i]? = (Ls[i]?).map fun l => if 8 * b ≤ i ∧ i < 8 * b + k then ff else l := by
  simp [blanks, List.getElem?_zipIdx, Option.map_map, Function.comp_def]
theorem blanks_zero (b : Nat) (Ls : List (List UInt8)) : blanks b 0 Ls = Ls := by
  apply List.ext_getElem?
  intro i
  rw [blanks_get]
  have : ¬ (8 * b ≤ i ∧ i < 8 * b + 0) := by omega
  simp only [if_neg this]
  simp
theorem blanks_step {b k : Nat} {Ls : List (List UInt8)} (hk : 8 * b + k < Ls.length) : (blanks b k Ls).set (8 * b + k) (ff) = blanks b (k + 1) Ls := by
  apply List.ext_getElem?
  intro i
  rw [List.getElem?_set, blanks_get, blanks_get, blanks_length]
  by_cases e : 8 * b + k = i
  · subst e
    rw [if_pos rfl, if_pos hk, List.getElem?_eq_getElem hk, Option.map_some, if_pos ⟨by omega, by omega⟩]
  · rw [if_neg e]
    congr 1
    funext l
    have : (8 * b ≤ i ∧ i < 8 * b + k) ↔ (8 * b ≤ i ∧ i < 8 * b + (k + 1)) := by omega
    simp only [this]
theorem blanks_all {b k : Nat} {Ls : List (List UInt8)} (h : ∀ l ∈ Ls, l.length = 258) : ∀ l ∈ blanks b k Ls, l.length = 258 := fun l hl => by
  unfold blanks at hl
  obtain ⟨x, hx, rfl⟩ := List.mem_map.1 hl
  split
  · exact ff_length
  · exact h _ (by
      obtain ⟨i, hi, e⟩ := List.getElem_of_mem hx
      rw [← e, List.getElem_zipIdx]
      exact List.getElem_mem _)
/-- the page with one bit turned -/
def fl (L : List UInt8) (i : Nat) : List UInt8 := L.set (i / 8) ((L.getD (i / 8) 0) ^^^ UInt8.ofNat (2 ^ (i % 8)))
theorem fl_length (L : List UInt8) (i : Nat) : (fl L i).length = L.length := by simp [fl]
theorem ofNat_pow (k : Nat) (h : k < 8) : (UInt8.ofNat (2 ^ k)).toNat = 2 ^ k := by
  have : ∀ k : Fin 8, (UInt8.ofNat (2 ^ k.val)).toNat = 2 ^ k.val := by decide
  exact this ⟨k, h⟩
/-- a number between nought and eight -/
def clip8 (n : Int) : Nat := (min (max n 0) 8).toNat
end NM
end Go.Proofs.Ytjdegfblacbkoaa
