/- The contracts of NewPower and of New with no bad block. Condition at New: 16 to 40 blocks. -/
import Derived.Test.YtjdegfblacbkoaaNandEr
import Derived.Laws.MakeOwn
namespace Go.Proofs.Ytjdegfblacbkoaa
open Go.RowKit
/-- power that lasts -/
def NM.Pwr.fresh : NM.Pwr := ⟨false, -1, 0⟩
theorem newpower_any (w : World) : Calls Try.prog 7 #[] w fun e w' => e = .returned (.pointer (some ⟨w.heap.size, 0, none⟩)) ∧ PPow w' w.heap.size NM.Pwr.fresh ∧ Below w.heap.size w w' := by
  go_enter Try.func7, Try.ntmps7
  go_wp2
  go_ret
  exact ⟨rfl, ⟨false, 0, 0, Blk.new w _ _, fun _ => .inl ⟨rfl, by show (-1 : Int) < 0; omega⟩⟩, (Below.refl _ _).alloc (Nat.le_refl _) _⟩
/-- a block as it is laid; a blank one -/
def Bk.zero : Bk := ⟨List.replicate 8 pzeros, 0, false⟩
def Bk.blank : Bk := ⟨List.replicate 8 NM.ff, 0, false⟩
theorem Bk.zero_ok : Bk.zero.ok := ⟨rfl, fun l hl => by rw [List.eq_of_mem_replicate hl]; exact pzeros_length, by show 0 ≤ 8; omega⟩
theorem Bk.blank_ok : Bk.blank.ok := ⟨rfl, fun l hl => by rw [List.eq_of_mem_replicate hl]; exact NM.ff_length, by show 0 ≤ 8; omega⟩
def zBlock : Value := .agg ⟨List.replicate 2064 (.int .u8 0) ++ [.int .i64 0, .bool false]⟩
theorem infoBlock : (Try.prog.info? 73).map (fun i => (i.zero, i.size, i.bytes)) = some (some zBlock, 2066, 2080) := by kernel_rfl
theorem zBlock_cells : zBlock.cells.toList = Bk.zero.row := by
  have e : bv (List.replicate 8 pzeros).flatten = List.replicate 2064 (.int .u8 0) := by
    unfold pzeros
    rw [List.flatten_replicate_replicate]
    exact List.map_replicate
  unfold Bk.row Bk.zero
  rw [e]
  rfl
theorem made (n : Nat) : madeCells zBlock.cells (n * 2066) = ((List.replicate n Bk.zero).map Bk.row).flatten.toArray := by
  have hc : zBlock.cells = Bk.zero.row.toArray := by rw [← zBlock_cells]
  have hl := Bk.row_length Bk.zero_ok
  rw [hc]
  apply Array.toList_inj.1
  rw [List.toList_toArray]
  apply List.ext_getElem?
  intro i
  have hrow : ∀ l ∈ (List.replicate n Bk.zero).map Bk.row, l.length = 2066 := fun l h => by
    obtain ⟨b, hb, rfl⟩ := List.mem_map.1 h
    rw [List.eq_of_mem_replicate hb]; exact hl
  have hfl := NM.flat_length (n := 2066) _ hrow
  rw [List.length_map, List.length_replicate] at hfl
  rcases Nat.lt_or_ge i (n * 2066) with h | h
  · have hb : i / 2066 < n := by omega
    have e := NM.flat_get (n := 2066) _ hrow (i / 2066) (by simpa using hb) (i % 2066) (Nat.mod_lt _ (by omega))
    rw [show i / 2066 * 2066 + i % 2066 = i by omega] at e
    have hm : i % 2066 < Bk.zero.row.length := by rw [hl]; exact Nat.mod_lt _ (by omega)
    rw [e]
    simp [madeCells, h, hl]
    rw [List.getElem?_eq_getElem hm]
    rfl
  · rw [List.getElem?_eq_none (l := (List.map Bk.row (List.replicate n Bk.zero)).flatten) (by omega)]
    simp [madeCells]
    omega
theorem make_any (N : Nat) (hN : N ≤ 40) (w : World) : (Instr.makeSlice 41 (.int .i64 (N : Int)) (.int .i64 (N : Int))).run Try.prog w = .ok (.slice (some ⟨w.heap.size, 0, none⟩) N N) (w.alloc (.cells ((List.replicate N Bk.zero).map Bk.row).flatten.toArray 73)) := by
  have h := infoBlock
  obtain ⟨i, hi, hh⟩ := Option.map_eq_some_iff.1 h
  have e1 : i.zero = some zBlock := congrArg (·.1) hh
  have e2 : i.size = 2066 := congrArg (·.2.1) hh
  have e3 : i.bytes = 2080 := congrArg (·.2.2) hh
  have := run_make (P := Try.prog) w 41 73 i zBlock Try.underlying41 hi e1 .i64 .i64 N N (by omega) (by omega) (by rw [e3]; omega) (by omega)
  rw [e2, Int.toNat_natCast, made] at this
  exact this
/-- the first j of N blocks are blank -/
def laidB (N j : Nat) : List Bk := List.replicate j Bk.blank ++ List.replicate (N - j) Bk.zero
theorem laidB_length {N j : Nat} (h : j ≤ N) : (laidB N j).length = N := by simp [laidB]; omega
theorem laidB_step {N j : Nat} (h : j < N) : wipeB (laidB N j) j 8 = laidB N (j + 1) := by
  have hb : j < (laidB N j).length := by rw [laidB_length (by omega)]; exact h
  have e : (laidB N j)[j] = Bk.zero := by
    have : (laidB N j)[j]? = some Bk.zero := by
      unfold laidB
      rw [List.getElem?_append_right (by simp), List.length_replicate, Nat.sub_self, List.getElem?_replicate, if_pos (by omega)]
    rw [List.getElem?_eq_getElem hb] at this
    exact Option.some.inj this
  unfold wipeB
  rw [getBk hb, e]
  unfold laidB
  rw [List.set_append_right _ _ (by simp), List.length_replicate, Nat.sub_self, show N - j = (N - (j + 1)) + 1 by omega, List.replicate_succ, List.set_cons_zero, List.replicate_succ', List.append_assoc]
  rfl
theorem laidB_all (N : Nat) : laidB N N = List.replicate N Bk.blank := by simp [laidB]
def Ch.blank (N : Nat) : Ch := ⟨List.replicate N Bk.blank, false, false, 0, fun _ => false, 0, fun _ => false, 0⟩
set_option maxHeartbeats 1000000 in
theorem index_nil (v : Value) (w : World) : Calls Try.prog 46 #[.slice none 0 0, v] w fun e w' => e = .returned (.int .i64 (-1)) ∧ w = w' := by
  go_enter Try.func46, Try.ntmps46
  go_wp2_with fail
  go_loopw [8] (fun i wr => i = .int .i64 0 ∧ wr = w) (fun i _ => 0)
  case atStart => exact ⟨rfl, rfl⟩
  case round =>
    obtain ⟨rfl, rfl⟩ := hrel
    go_wp2
    go_ret
    exact ⟨rfl, rfl⟩
theorem contains_nil (v : Value) (w : World) : Calls Try.prog 23 #[.slice none 0 0, v] w fun e w' => e = .returned (.bool false) ∧ w = w' := by
  have k1 := index_nil v w
  go_enter Try.func23, Try.ntmps23
  go_wp2_with fail
  ((with_reducible refine k1.mono ?_); rintro e w' ⟨rfl, rfl⟩)
  go_wp2
  go_ret
  exact ⟨rfl, rfl⟩
end Go.Proofs.Ytjdegfblacbkoaa
