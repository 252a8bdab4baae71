/- What look finds: a table with its number, its block and its page, as a value of 335 cells. No condition. -/
import Derived.Test.YtdiocjneakfdgaaGreatDoorQBbtD
namespace Go.Proofs.YtdiocjneakfdgaaGreatDoor
open Go.RowKit
theorem drop_app {A B : List Value} {n : Nat} (h : A.length = n) (m : Nat) : (A ++ B).drop (n + m) = B.drop m := by
  subst h
  rw [List.drop_append, List.drop_eq_nil_of_le (by omega), List.nil_append, Nat.add_sub_cancel_left]
theorem set_mid (A : List Value) (x v : Value) (B vs : List Value) : ((A ++ x :: B).set A.length v).take (A.length + 1) ++ vs ++ ((A ++ x :: B).set A.length v).drop (A.length + 1 + vs.length) = (A ++ x :: B).take A.length ++ v :: vs ++ (A ++ x :: B).drop (A.length + (vs.length + 1)) := by
  have e1 : (A ++ x :: B).set A.length v = (A ++ [v]) ++ B := by simp
  have e2 : (A ++ x :: B) = (A ++ [x]) ++ B := by simp
  have l1 : (A ++ [v]).length = A.length + 1 := by simp
  have l2 : (A ++ [x]).length = A.length + 1 := by simp
  rw [e1, List.take_left' l1, drop_app l1, List.take_left' rfl, show A.length + (vs.length + 1) = A.length + 1 + vs.length by omega, e2, drop_app l2]
  simp
theorem foldSet : ∀ (vs : List Value) (k off : Nat) (cs : Array Value), off + k + vs.length ≤ cs.size → (vs.zipIdx k).foldl (fun cs (x : Value × Nat) => cs.setIfInBounds (off + x.2) x.1) cs = (cs.toList.take (off + k) ++ vs ++ cs.toList.drop (off + k + vs.length)).toArray
  | [], k, off, cs, _ => by simp
  | v :: vs, k, off, cs, h => by
    simp only [List.length_cons] at h
    rw [List.zipIdx_cons, List.foldl_cons, foldSet vs (k + 1) off _ (by simp; omega)]
    apply congrArg
    simp only [Array.toList_setIfInBounds]
    have hl : off + k < cs.toList.length := by simp; omega
    obtain ⟨A, hA⟩ : ∃ A, A = cs.toList.take (off + k) := ⟨_, rfl⟩
    obtain ⟨B, hB⟩ : ∃ B, B = cs.toList.drop (off + k + 1) := ⟨_, rfl⟩
    have hAl : A.length = off + k := by rw [hA, List.length_take]; omega
    have e : cs.toList = A ++ cs.toList[off + k] :: B := by rw [hA, hB, ← List.drop_eq_getElem_cons hl, List.take_append_drop]
    obtain ⟨x, hx⟩ : ∃ x, x = cs.toList[off + k] := ⟨_, rfl⟩
    rw [← hx] at e
    rw [e, ← hAl, show off + (k + 1) = A.length + 1 by omega]
    exact set_mid A x v B vs
/-- a part laid into a row of which the first cells are known -/
theorem seg_app {L T vs : List Value} {o m : Nat} (h : L.length = o) : (L ++ T).take o ++ vs ++ (L ++ T).drop (o + m) = (L ++ vs) ++ T.drop m := by
  rw [List.take_left' h, drop_app h]
/-- what is found: number, layout, block, page -/
structure Kp where
  num : Nat
  lay : Lay
  blk : Nat
  pg : List UInt8
def Kp.row (k : Kp) : List Value := k.lay.row ++ (.int .u64 (k.num : Int) :: .int .i64 (k.blk : Int) :: bv k.pg)
def Kp.zero : Kp := ⟨0, Lay.of 0, 0, pzeros⟩
def keptOf (f : Option Kp) : Kp := f.getD Kp.zero
theorem Kp.row_length {k : Kp} (h1 : k.lay.row.length = 75) (h2 : k.pg.length = 258) : k.row.length = 335 := by
  simp [Kp.row, h1, h2, bv_length]
theorem Kp.zero_length : Kp.zero.row.length = 335 := Kp.row_length Lay.zero_length pzeros_length
theorem Kp.one (k : Kp) : ∀ v ∈ k.row, v.oneCell' = true := fun v hv => by
  rcases List.mem_append.1 hv with h | h
  · exact Lay.one _ v h
  · rcases List.mem_cons.1 h with rfl | h
    · rfl
    · rcases List.mem_cons.1 h with rfl | h
      · rfl
      · exact bv_one h
theorem aggKept (w : World) : (isAgg 159).run Tryz.prog w = .ok true w := by kernel_rfl
theorem sizeKept (w : World) : (sizeOf 159).run Tryz.prog w = .ok 335 w := by kernel_rfl
theorem zeroKept (w : World) : (zeroValue 159).run Tryz.prog w = .ok (.agg Kp.zero.row.toArray) w := by kernel_rfl
theorem buildKept0 (w : World) : (Instr.build 159 #[]).run Tryz.prog w = .ok (.agg Kp.zero.row.toArray) w := by kernel_rfl
def keptPlaces : Array (Nat × Nat) := #[(0, 75), (75, 1), (76, 1), (77, 258)]
theorem fold_seg (vs : List Value) (o : Nat) (cs : List Value) (h : o + vs.length ≤ cs.length) : vs.toArray.zipIdx.foldl (fun cs (x : Value × Nat) => cs.setIfInBounds (o + x.2) x.1) cs.toArray = (cs.take o ++ vs ++ cs.drop (o + vs.length)).toArray := by
  have := foldSet vs 0 o cs.toArray (by simpa using h)
  rw [← Array.foldl_toList]
  simpa using this
theorem fill_cons {place : Nat → Option (Nat × Nat)} {cs : List Value} {i o m : Nat} {v : Value} {vs : List Value} {rest : List (Nat × Value)} (hp : place i = some (o, m)) (hv : v.cells = vs.toArray) (hm : vs.length = m) (hc : o + m ≤ cs.length) :
    Instr.fill place cs.toArray ((i, v) :: rest) = Instr.fill place (cs.take o ++ vs ++ cs.drop (o + m)).toArray rest := by
  rw [Instr.fill, hp]
  simp only [hv]
  rw [if_neg (by simp; omega)]
  have := fold_seg vs o cs (by omega)
  rw [hm] at this
  exact congrArg (fun x => Instr.fill place x rest) this
theorem fill4 (r : List Value) (hr : r.length = 75) (z b : Value) (hz : z.cells = #[z]) (hb : b.cells = #[b]) (p : List UInt8) (hp : p.length = 258) :
    Instr.fill (keptPlaces[·]?) Kp.zero.row.toArray [(0, .agg r.toArray), (1, z), (2, b), (3, .agg (cl p))] = some (r ++ (z :: b :: bv p)).toArray := by
  have hZ := Kp.zero_length
  obtain ⟨Z, hZZ⟩ : ∃ Z, Z = Kp.zero.row := ⟨_, rfl⟩
  rw [← hZZ] at hZ ⊢
  clear hZZ
  have hbl : (bv p).length = 258 := by rw [bv_length, hp]
  rw [fill_cons (o := 0) (m := 75) (vs := r) rfl rfl hr (by omega)]
  rw [List.take_zero, List.nil_append, Nat.zero_add]
  rw [fill_cons (o := 75) (m := 1) (vs := [z]) rfl hz rfl (by simp; omega), seg_app hr]
  rw [fill_cons (o := 76) (m := 1) (vs := [b]) rfl hb rfl (by simp; omega), seg_app (by simp; omega)]
  rw [fill_cons (o := 77) (m := 258) (vs := bv p) rfl (by simp [Value.cells, cl]) hbl (by simp; omega), seg_app (by simp; omega)]
  rw [Instr.fill, List.drop_drop, List.drop_drop, List.drop_drop, List.drop_eq_nil_of_le (by omega)]
  simp
end Go.Proofs.YtdiocjneakfdgaaGreatDoor

