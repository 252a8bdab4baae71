/- Several texts of the proof, joined: what each has is said at its head. -/
import Derived.Test.YtppodbijdhcclaaProg
import Derived.Test.YtppodbijdhcclaaQCore
import Derived.Deep.WholeRow
import Derived.BigFrame
import Derived.Deep.RegionHeld3
import Derived.Deep.QuietTactic
import Derived.BigQuiet
import Derived.ProofKit
import Derived.OpenShut
import Derived.Deep.RegionHeld
/- A set of keys as an array in a block of its own: what loading, storing, and comparing it whole leave. No condition. -/
namespace Go.Proofs.Ytppodbijdhcclaa
open Go.RowKit

/-- no key -/
def lzeros : List UInt8 := List.replicate 32 0
theorem lzeros_length : lzeros.length = 32 := List.length_replicate
theorem infoLive : (Try.prog.info? 53).map (fun i => (i.zero, i.size)) = some (some (.agg (Array.replicate 32 (.int .u8 0))), 32) := by kernel_rfl
theorem cl_lzeros : Array.replicate 32 (.int .u8 0) = cl lzeros := by
  apply Array.toList_inj.1
  rw [cl_list]
  unfold lzeros bv
  rw [List.map_replicate, Array.toList_replicate]
  rfl
theorem zeroLive (w : World) : (zeroValue 53).run Try.prog w = .ok (.agg (cl lzeros)) w := by
  rw [← cl_lzeros]
  exact (zero_of_info infoLive).1 w
theorem sizeLive : (Try.prog.info? 53).map (·.size) = some 32 := (zero_of_info infoLive).2

/-- in block g lies the array of the 32 bytes L -/
def LArr (w : World) (g : Nat) (L : List UInt8) : Prop := w.heap[g]? = some (.cells (cl L) 53 (0, 0)) ∧ L.length = 32
section
variable {w w' : World} {g B : Nat} {L L' : List UInt8}
theorem LArr.lt (h : LArr w g L) : g < w.heap.size := by
  rcases Nat.lt_or_ge g w.heap.size with h' | h'
  · exact h'
  · have := h.1
    rw [Array.getElem?_eq_none h'] at this
    cases this
theorem LArr.below (h : LArr w g L) (hb : Below B w w') (hg : g < B) : LArr w' g L := ⟨(hb.block g hg).trans h.1, h.2⟩
theorem LArr.after (h : LArr w g L) (hb : Below w.heap.size w w') : LArr w' g L := h.below hb h.lt
theorem LArr.alloc (h : LArr w g L) (o : Obj) : LArr (w.alloc o) g L := h.after ((Below.refl _ _).alloc (Nat.le_refl _) o)
theorem LArr.drew (h : LArr w g L) : LArr w.drew g L := h
theorem LArr.new (w : World) (hL : L.length = 32) : LArr (w.alloc (.cells (cl L) 53)) w.heap.size L := ⟨heap_alloc_last w _, hL⟩
theorem LArr.grown {k : Nat} (h : LArr w g L) (hg : w.grownBy w' (some k)) (hk : g ≠ k) : LArr w' g L := ⟨(hg.block g h.lt (by simpa using hk)).trans h.1, h.2⟩
theorem LArr.cell (h : LArr w g L) (k : Nat) : w.cell? ⟨g, k, none⟩ = (cl L)[k]? := by simp [World.cell?, h.1]
theorem LArr.free (h : LArr w g L) (k : Nat) : w.frozen? ⟨g, k, none⟩ = false := frozen_of_row w g k _ _ h.1
theorem LArr.set (h : LArr w g L) (k : Nat) (b : UInt8) : LArr (w.setCell ⟨g, k, none⟩ (.int .u8 (b.toNat : Int))) g (L.set k b) :=
  ⟨by rw [← cl_set]; exact heap_setCell_same w g k _ _ _ h.1, by rw [List.length_set]; exact h.2⟩

theorem LArr.other (h : LArr w g L) (a : Addr) (v : Value) (hne : g ≠ a.block) : LArr (w.setCell a v) g L := ⟨(heap_setCell_other w a g v hne).trans h.1, h.2⟩

theorem LArr.load (h : LArr w g L) : (loadVar 53 ⟨g, 0, none⟩).run Try.prog w = .ok (.agg (cl L)) w :=
  run_loadVar_row w g _ _ (cl L) (0, 0) _ h.1 Try.underlying53 rfl (by rw [cl_size, h.2]; exact sizeLive)
theorem LArr.cells (h : LArr w g L) : (loadCellsFrom ⟨g, 0, none⟩ 0 32 #[]).run Try.prog w = .ok (cl L) w := by
  have := run_loadCells_list (P := Try.prog) w ⟨g, 0, none⟩ (bv L) (fun j v hv => by
    have hadd : (⟨g, 0, none⟩ : Addr).add j = ⟨g, j, none⟩ := by unfold Addr.add; split <;> simp_all
    rw [hadd, h.cell, ← Array.getElem?_toList, cl_list]
    exact hv)
  rw [bv_length, h.2] at this
  exact this
/-- the array is loaded whole -/
theorem wpl_lload {ops : Array Oper} {rest : List Oper} {o : Oper} {a : Act} {Q : Exit → Act → World → Prop} (x : Operand) (ho : o.op = .load 53 x) (hgd : Region.wanted o (yielded ops a.tmps) = true)
    (hA : LArr w g L) (hx : a.eval x = .pointer (some ⟨g, 0, none⟩)) (h : wpList Try.prog ops Q rest (a.put o.dst (.agg (cl L))) w) : wpList Try.prog ops Q (o :: rest) a w := by
  refine BigFrame.wpList_want hgd fun K hK => ?_
  unfold Oper.wp execOp
  simp only [ho, hx, Instr.loadAt, Instr.sureAddr, Sem.run_bind, Sem.run_pure, Result.andThen_ok, hA.load]
  exact hK _ _ h
/-- the array is stored whole -/
theorem wpl_lstore {ops : Array Oper} {rest : List Oper} {o : Oper} {a : Act} {Q : Exit → Act → World → Prop} (x y : Operand) (ho : o.op = .store 53 x y) (hgd : Region.wanted o (yielded ops a.tmps) = true)
    (hA : LArr w g L) (hx : a.eval x = .pointer (some ⟨g, 0, none⟩)) (hL : L'.length = 32) (hy : a.eval y = .agg (cl L'))
    (h : ∀ w', LArr w' g L' → w.grownBy w' (some g) → w'.heap.size = w.heap.size → wpList Try.prog ops Q rest (a.put o.dst undef) w') : wpList Try.prog ops Q (o :: rest) a w := by
  have hs : (storeVar 53 ⟨g, 0, none⟩ (.agg (cl L'))).run Try.prog w = .ok () (w.setRow g (cl L')) :=
    run_storeVar_row w g _ _ (cl L) (cl L') hA.1 (by rw [cl_size, hL]; exact sizeLive) (by rw [cl_size, cl_size, hA.2, hL]) (cl_one L')
  refine BigFrame.wpList_want hgd fun K hK => ?_
  unfold Oper.wp execOp
  simp only [ho, hx, hy, Instr.storeAt, Instr.sureAddr, Sem.run_bind, Sem.run_pure, Result.andThen_ok, hs]
  refine hK _ _ (h _ ⟨setRow_heap w g (cl L) (cl L') _ _ hA.1, hL⟩ ⟨rfl, rfl, rfl, by simp, fun k _ hk => setRow_other w g k (cl L') (by simpa using hk)⟩ (by simp))
theorem lgrown_setCell (w : World) (g k : Nat) (v : Value) : w.grownBy (w.setCell ⟨g, k, none⟩ v).drew (some g) :=
  ⟨rfl, rfl, rfl, by simp, fun j _ hj => Below.heap_setCell w _ v j (by simpa using hj)⟩
/-- a result that is an array and two numbers -/
theorem lret3 {fn : Func} {p u v : Tmp} (h : fn.results = #[.cell p 53, .tmp u, .tmp v]) (tmps : Array Value) (hA : LArr w g L) (hp : tmps.getD p undef = .pointer (some ⟨g, 0, none⟩)) :
    (results fn tmps).run Try.prog w = .ok (.tuple #[.agg (cl L), tmps.getD u undef, tmps.getD v undef]) w := by
  have hp' : tmps[p]?.getD undef = .pointer (some ⟨g, 0, none⟩) := by simpa using hp
  simp [results, h, hp', asAddr, hA.load]
/-- a result that is an array and a number -/
theorem lret2 {fn : Func} {p u : Tmp} (h : fn.results = #[.cell p 53, .tmp u]) (tmps : Array Value) (hA : LArr w g L) (hp : tmps.getD p undef = .pointer (some ⟨g, 0, none⟩)) :
    (results fn tmps).run Try.prog w = .ok (.tuple #[.agg (cl L), tmps.getD u undef]) w := by
  have hp' : tmps[p]?.getD undef = .pointer (some ⟨g, 0, none⟩) := by simpa using hp
  simp [results, h, hp', asAddr, hA.load]
end
theorem lhb_two (w : World) (L M : List UInt8) : Below w.heap.size w ((w.alloc (.cells (cl L) 53)).alloc (.cells (cl M) 53)) :=
  ((Below.refl w.heap.size w).alloc (Nat.le_refl _) _).alloc (by simp) _
theorem larr_one (w : World) {L : List UInt8} (hL : L.length = 32) (M : List UInt8) : Hid (LArr ((w.alloc (.cells (cl L) 53)).alloc (.cells (cl M) 53)) w.heap.size L) := Lib.hid ((LArr.new w hL).alloc _)
theorem larr_two (w : World) (L : List UInt8) {M : List UInt8} (hM : M.length = 32) : Hid (LArr ((w.alloc (.cells (cl L) 53)).alloc (.cells (cl M) 53)) (w.heap.size + 1) M) := by
  have := LArr.new (w.alloc (.cells (cl L) 53)) hM
  rw [World.size_alloc] at this
  exact Lib.hid this
/-- a new variable that an array is stored into: what was there is kept -/
theorem lkept_new {w w3 w4 : World} (hb : Below w.heap.size w w3) (g4 : (w3.alloc (.cells (cl lzeros) 53)).grownBy w4 (some w3.heap.size)) : Below w.heap.size w w4 :=
  (hb.alloc hb.size _).grown g4 (by rw [World.size_alloc]; have := hb.size; omega) (fun k e => by cases e; exact hb.size)
theorem LArr.lkept_new {w3 w4 : World} {g : Nat} {L : List UInt8} (h : LArr w3 g L) (g4 : (w3.alloc (.cells (cl lzeros) 53)).grownBy w4 (some w3.heap.size)) : LArr w4 g L :=
  (h.alloc _).grown g4 (Nat.ne_of_lt h.lt)
/-- a byte is stored into the array in block g -/
theorem wpl_lput {ops : Array Oper} {rest : List Oper} {o : Oper} {a : Act} {w : World} {Q : Exit → Act → World → Prop} {g : Nat} {L : List UInt8} (x y : Operand) (ho : o.op = .store 5 x y) (hgd : Region.wanted o (yielded ops a.tmps) = true)
    (hA : LArr w g L) (i : Nat) (hi : i < 32) (b : UInt8) (hx : a.eval x = .pointer (some ⟨g, i, none⟩)) (hy : a.eval y = .int .u8 ((b.toNat : Nat) : Int))
    (h : ∀ w', LArr w' g (L.set i b) → w.grownBy w' (some g) → wpList Try.prog ops Q rest (a.put o.dst undef) w') : wpList Try.prog ops Q (o :: rest) a w := by
  have hc : w.cell? ⟨g, i, none⟩ = some (.int .u8 ((L[i]'(by rw [hA.2]; exact hi)).toNat : Int)) := (hA.cell i).trans (cl_get (by rw [hA.2]; exact hi))
  have hs : (storeVar 5 ⟨g, i, none⟩ (.int .u8 ((b.toNat : Nat) : Int))).run Try.prog w = .ok () (w.setCell ⟨g, i, none⟩ (.int .u8 ((b.toNat : Nat) : Int))) := by
    have hsz : (sizeOf 5).run Try.prog w = .ok 1 w := by kernel_rfl
    have h1 : (Value.int .u8 ((b.toNat : Nat) : Int)).oneCell' = true := rfl
    have h0 : (⟨g, i, none⟩ : Addr).add 0 = ⟨g, i, none⟩ := by simp [Addr.add]
    simp [storeVar, Sem.run_bind, hsz, Value.cells, storeCells, h0, run_store _ _ _ _ _ h1, hc, hA.free i]
  refine BigFrame.wpList_want hgd fun K hK => ?_
  unfold Oper.wp execOp
  simp only [ho, hx, hy, Instr.storeAt, Instr.sureAddr, Sem.run_bind, Sem.run_pure, Result.andThen_ok, hs]
  exact hK _ _ (h _ (hA.set i b) ⟨rfl, rfl, rfl, by simp, fun k _ hk => heap_setCell_other w _ k _ (by simpa using hk)⟩)
end Go.Proofs.Ytppodbijdhcclaa

/- Which nodes there are, as 32 bytes: has and put at a key, and their laws. No condition. -/
namespace Go.Proofs.Ytppodbijdhcclaa
def hasB (L : List UInt8) (k : Nat) : Bool := (L.getD (k / 8) 0).toNat.testBit (k % 8)
def putB (L : List UInt8) (k : Nat) (b : Bool) : List UInt8 := if hasB L k = b then L else L.set (k / 8) (UInt8.ofNat ((L.getD (k / 8) 0).toNat ^^^ 2 ^ (k % 8)))
def lhas (L : List UInt8) (z : Int) : Bool := decide (0 ≤ z ∧ z < 256) && hasB L z.toNat
def lput (L : List UInt8) (b : Bool) (z : Int) : List UInt8 := if 0 ≤ z ∧ z < 256 then putB L z.toNat b else L
def lputs (L : List UInt8) (b : Bool) (zs : List Int) : List UInt8 := zs.foldl (fun L z => lput L b z) L
theorem putB_length (L : List UInt8) (k : Nat) (b : Bool) : (putB L k b).length = L.length := by unfold putB; split <;> simp
theorem lput_length (L : List UInt8) (b : Bool) (z : Int) : (lput L b z).length = L.length := by unfold lput; split; exact putB_length _ _ _; rfl
theorem lputs_length (b : Bool) : ∀ (zs : List Int) (L : List UInt8), (lputs L b zs).length = L.length
  | [], _ => rfl
  | z :: zs, L => by
    have := lputs_length b zs (lput L b z)
    unfold lputs at this ⊢
    rw [List.foldl_cons, this, lput_length]
theorem lputs_snoc (L : List UInt8) (b : Bool) (zs : List Int) (z : Int) : lputs L b (zs ++ [z]) = lput (lputs L b zs) b z := by
  unfold lputs
  rw [List.foldl_append, List.foldl_cons, List.foldl_nil]
theorem xor_lt {x r : Nat} (hx : x < 256) (hr : r < 8) : x ^^^ 2 ^ r < 256 := by
  have h2 : 2 ^ r < 2 ^ 8 := Nat.pow_lt_pow_right (by omega) hr
  exact Nat.xor_lt_two_pow (n := 8) hx h2
theorem getD_lt (L : List UInt8) (i : Nat) : (L.getD i 0).toNat < 256 := (L.getD i 0).toNat_lt
theorem hasB_putB {L : List UInt8} (hL : L.length = 32) {k j : Nat} (hk : k < 256) (b : Bool) : hasB (putB L k b) j = if j = k then b else hasB L j := by
  unfold putB
  by_cases h : hasB L k = b
  · rw [if_pos h]
    by_cases e : j = k
    · rw [if_pos e, e, h]
    · rw [if_neg e]
  · rw [if_neg h]
    have hi : k / 8 < L.length := by omega
    have hx := getD_lt L (k / 8)
    have hr : k % 8 < 8 := Nat.mod_lt _ (by omega)
    have hlt := xor_lt hx hr
    unfold hasB at h ⊢
    by_cases e : j / 8 = k / 8
    · have e1 : (L.set (k / 8) (UInt8.ofNat ((L.getD (k / 8) 0).toNat ^^^ 2 ^ (k % 8)))).getD (j / 8) 0 = UInt8.ofNat ((L.getD (k / 8) 0).toNat ^^^ 2 ^ (k % 8)) := by
        rw [e, List.getD_eq_getElem?_getD, List.getElem?_set_self hi, Option.getD_some]
      rw [e1, UInt8.toNat_ofNat', Nat.mod_eq_of_lt hlt, Nat.testBit_xor, Nat.testBit_two_pow, e]
      by_cases e2 : j % 8 = k % 8
      · have : j = k := by omega
        rw [if_pos this, e2]
        have h' : (L.getD (k / 8) 0).toNat.testBit (k % 8) = !b := by
          revert h
          cases (L.getD (k / 8) 0).toNat.testBit (k % 8) <;> cases b <;> simp
        rw [h']
        cases b <;> simp
      · have : j ≠ k := fun h => e2 (by rw [h])
        rw [if_neg this]
        simp [Ne.symm e2]
    · have e1 : (L.set (k / 8) (UInt8.ofNat ((L.getD (k / 8) 0).toNat ^^^ 2 ^ (k % 8)))).getD (j / 8) 0 = L.getD (j / 8) 0 := by
        rw [List.getD_eq_getElem?_getD, List.getElem?_set_ne (Ne.symm e), ← List.getD_eq_getElem?_getD]
      have : j ≠ k := fun h => e (by rw [h])
      rw [e1, if_neg this]
theorem lhas_lput {L : List UInt8} (hL : L.length = 32) (b : Bool) (z y : Int) : lhas (lput L b z) y = if y = z ∧ 0 ≤ z ∧ z < 256 then b else lhas L y := by
  unfold lhas lput
  by_cases hz : 0 ≤ z ∧ z < 256
  · rw [if_pos hz, hasB_putB hL (by omega)]
    by_cases e : y = z
    · subst e
      rw [if_pos rfl, if_pos ⟨rfl, hz⟩, decide_eq_true hz, Bool.true_and]
    · rw [if_neg (show ¬ (y = z ∧ 0 ≤ z ∧ z < 256) from fun h => e h.1)]
      by_cases hy : 0 ≤ y ∧ y < 256
      · rw [if_neg (by omega)]
      · rw [decide_eq_false hy, Bool.false_and, Bool.false_and]
  · rw [if_neg hz, if_neg (fun h => hz h.2)]
/-- a key put in is there -/
theorem lhas_lputs : ∀ (zs : List Int) {L : List UInt8}, L.length = 32 → ∀ {y : Int}, (y ∈ zs ∨ lhas L y = true) → (0 ≤ y ∧ y < 256) → lhas (lputs L true zs) y = true
  | [], _, _, _, hy, _ => by
    rcases hy with hy | hy
    · cases hy
    · exact hy
  | z :: zs, L, hL, y, hy, h => by
    unfold lputs
    rw [List.foldl_cons]
    refine lhas_lputs zs (by rw [lput_length]; exact hL) (y := y) ?_ h
    rw [lhas_lput hL]
    by_cases e : y = z
    · exact .inr (by rw [if_pos ⟨e, by omega⟩])
    · rw [if_neg (fun k => e k.1)]
      rcases hy with hy | hy
      · rcases List.mem_cons.1 hy with hy | hy
        · exact absurd hy e
        · exact .inl hy
      · exact .inr hy
theorem lhas_mem {L : List UInt8} (hL : L.length = 32) {zs : List Int} {y : Int} (hy : y ∈ zs) : lhas (lputs L true zs) y = decide (0 ≤ y ∧ y < 256) := by
  by_cases h : 0 ≤ y ∧ y < 256
  · rw [decide_eq_true h]
    exact lhas_lputs zs hL (.inl hy) h
  · unfold lhas
    rw [decide_eq_false h, Bool.false_and]
/-- a bit set by or, and taken by and-not -/
theorem or_bit {x r : Nat} (hx : x < 256) (hr : r < 8) : x ||| 2 ^ r = if x.testBit r = true then x else x ^^^ 2 ^ r := by
  have : ∀ r < 8, ∀ x < 256, x ||| 2 ^ r = if x.testBit r = true then x else x ^^^ 2 ^ r := by decide +kernel
  exact this r hr x hx
theorem andNot_bit {x r : Nat} (hx : x < 256) (hr : r < 8) : x &&& (255 - 2 ^ r) = if x.testBit r = false then x else x ^^^ 2 ^ r := by
  have : ∀ r < 8, ∀ x < 256, x &&& (255 - 2 ^ r) = if x.testBit r = false then x else x ^^^ 2 ^ r := by decide +kernel
  exact this r hr x hx
theorem and_bit {x r : Nat} (hx : x < 256) (hr : r < 8) : x &&& 2 ^ r ≠ 0 ↔ x.testBit r = true := by
  have : ∀ r < 8, ∀ x < 256, (x &&& 2 ^ r ≠ 0 ↔ x.testBit r = true) := by decide +kernel
  exact this r hr x hx
theorem shr_bit {x r : Nat} (hx : x < 256) (hr : r < 8) : x >>> r % 2 = 1 ↔ x.testBit r = true := by
  have : ∀ r < 8, ∀ x < 256, (x >>> r % 2 = 1 ↔ x.testBit r = true) := by decide +kernel
  exact this r hr x hx
/-- the keys there are, up to k -/
def keysTo (L : List UInt8) (k : Nat) : List Nat := (List.range k).filter (hasB L)
theorem keysTo_succ (L : List UInt8) (k : Nat) : keysTo L (k + 1) = keysTo L k ++ if hasB L k = true then [k] else [] := by
  unfold keysTo
  rw [List.range_succ, List.filter_append]
  congr 1
  by_cases h : hasB L k = true
  · rw [if_pos h, List.filter_cons_of_pos h, List.filter_nil]
  · rw [if_neg h, List.filter_cons_of_neg h, List.filter_nil]
theorem keysTo_length_le (L : List UInt8) (k : Nat) : (keysTo L k).length ≤ k := by
  have := List.length_filter_le (hasB L) (List.range k)
  rwa [List.length_range] at this
theorem keysTo_pre (L : List UInt8) {k n : Nat} (h : k ≤ n) : ∃ r, keysTo L n = keysTo L k ++ r := by
  induction n with
  | zero => exact ⟨[], by rw [show k = 0 by omega, List.append_nil]⟩
  | succ n ih =>
    by_cases e : k = n + 1
    · exact ⟨[], by rw [e, List.append_nil]⟩
    · obtain ⟨r, hr⟩ := ih (by omega)
      exact ⟨r ++ if hasB L n = true then [n] else [], by rw [keysTo_succ, hr, List.append_assoc]⟩
theorem keysTo_at {L : List UInt8} {k n : Nat} (h : k < n) (hk : hasB L k = true) : (keysTo L k).length < (keysTo L n).length ∧ (keysTo L n)[(keysTo L k).length]? = some k := by
  obtain ⟨r, hr⟩ := keysTo_pre L (show k + 1 ≤ n by omega)
  rw [hr, keysTo_succ, if_pos hk]
  refine ⟨by simp only [List.length_append, List.length_cons]; omega, ?_⟩
  rw [List.append_assoc, List.getElem?_append_right (Nat.le_refl _), Nat.sub_self]
  rfl
end Go.Proofs.Ytppodbijdhcclaa

/- The contracts of node's Write: a node's bytes. No condition but that the body is there. -/
namespace Go.Proofs.Ytppodbijdhcclaa
open Go.RowKit
/-- a node's bytes -/
def nb (k e : Nat) (l : List UInt8) : List UInt8 := numB 1 k ++ (numB 8 e ++ l)
theorem nb_length (k e : Nat) (l : List UInt8) : (nb k e l).length = 9 + l.length := by
  simp only [nb, List.length_append, numB_length]; omega
theorem isKey_yes (k : Nat) (hk : k < 256) (w : World) : Calls Try.prog 66 #[.int .i64 (k : Int)] w fun e w' => e = .returned (.bool true) ∧ w = w' := by
  have h1 : (0 : Int) ≤ (k : Int) := by omega
  have h2 : (k : Int) < 256 := by omega
  go_enter Try.func66, Try.ntmps66
  go_wp2
  go_ret
  exact ⟨rfl, rfl⟩
theorem isKey_no (k : Int) (hk : k < 0 ∨ 255 < k) (w : World) : Calls Try.prog 66 #[.int .i64 k] w fun e w' => e = .returned (.bool false) ∧ w = w' := by
  rcases hk with hk | hk
  · have h1 : ¬ 0 ≤ k := by omega
    go_enter Try.func66, Try.ntmps66
    go_wp2
    go_ret
    exact ⟨rfl, rfl⟩
  · have h1 : 0 ≤ k := by omega
    have h2 : ¬ k < 256 := by omega
    go_enter Try.func66, Try.ntmps66
    go_wp2
    go_ret
    exact ⟨rfl, rfl⟩
def nodeA (k : Int) (e : Nat) (v : Value) : Array Value := #[.int .i64 k, .int .u64 (e : Int), v]
set_option maxHeartbeats 2000000 in
theorem nwrite_yes (k e : Nat) (v : Value) (l : List UInt8) (w : World) (hk : k < 256) (hv : Bytes w w.heap.size v l) (hl : l.length ≤ 224) :
    Calls Try.prog 63 #[.agg #[.int .i64 (k : Int), .int .u64 (e : Int), v]] w fun x w' => ∃ g c, x = .returned (.tuple #[.slice (some ⟨g, 0, none⟩) (9 + l.length) c, .int .i64 0]) ∧ Own 5 w' w.heap.size (.slice (some ⟨g, 0, none⟩) (9 + l.length) c) (nb k e l) ∧ Below w.heap.size w w' := by
  obtain ⟨A, c, rfl, hc, hm, hr⟩ := id hv
  have HV := Lib.hid hv
  clear hv hr
  have b1 := Lib.hid ((Below.refl w.heap.size w).alloc (Nat.le_refl _) (.cells #[.int .i64 (k : Int), .int .u64 (e : Int), .slice A l.length c] 121))
  have B1 : Blk (w.alloc (.cells #[.int .i64 (k : Int), .int .u64 (e : Int), .slice A l.length c] 121)) w.heap.size 121 [.int .i64 (k : Int), .int .u64 (e : Int), .slice A l.length c] := heap_alloc_new w _
  have hgW0 := Lib.hid B1.lt
  have c0 := B1.cell 0
  have c1 := B1.cell 1
  have c2 := B1.cell 2
  simp only [List.getElem?_cons_zero, List.getElem?_cons_succ] at c0 c1 c2
  have hfl : Hid ([numB 1 k, numB 8 e, l].flatten = nb k e l) := Lib.hid (by simp [nb])
  have HV1 := Lib.hid ((HV.out.below b1.out).more b1.out.size)
  have d1 : decide ((224 : Int) < (l.length : Int)) = false := by simp; omega
  have k1' : ∀ w : World, Calls Try.prog 81 #[.int .i64 1, .int .u64 (IntKind.u64.wrap (k : Int))] w fun e w' => ∃ A c, e = .returned (.slice A 1 c) ∧ Own 5 w' w.heap.size (.slice A 1 c) (numB 1 k) ∧ Below w.heap.size w w' := fun w => by
    rw [show IntKind.u64.wrap (k : Int) = (k : Int) by rw [IntKind.wrap_u64]; omega]
    exact num_any 1 k w
  have k2 : ∀ w : World, Calls Try.prog 81 #[.int .i64 8, .int .u64 (e : Int)] w fun x w' => ∃ A c, x = .returned (.slice A 8 c) ∧ Own 5 w' w.heap.size (.slice A 8 c) (numB 8 e) ∧ Below w.heap.size w w' := fun w => num_any 8 e w
  obtain ⟨g, hg⟩ : ∃ g, g = w.heap.size := ⟨_, rfl⟩
  rw [← hg] at c0 c1 c2 hgW0
  clear B1
  go_enter Try.func63, Try.ntmps63
  go_wp2_with ((with_reducible refine (isKey_yes k hk _).mono ?_); rintro e w' ⟨rfl, rfl⟩)
  rw [← hg]
  clear hg
  obtain ⟨W, hW⟩ : ∃ W, W = w.alloc (.cells #[.int .i64 (k : Int), .int .u64 (e : Int), .slice A l.length c] 121) := ⟨_, rfl⟩
  rw [← hW] at b1 c0 c1 c2 HV1 hgW0 ⊢
  clear hW
  have KS : Hid (∀ w', Below W.heap.size W w' → w'.cell? ⟨g, 0, none⟩ = some (.int .i64 (k : Int)) ∧ w'.cell? ⟨g, 1, none⟩ = some (.int .u64 (e : Int)) ∧ w'.cell? ⟨g, 2, none⟩ = some (.slice A l.length c)) := Lib.hid fun w' h => ⟨(h.cell (p := ⟨g, 0, none⟩) hgW0.out).trans c0, (h.cell (p := ⟨g, 1, none⟩) hgW0.out).trans c1, (h.cell (p := ⟨g, 2, none⟩) hgW0.out).trans c2⟩
  have T1 := Lib.hid (Below.refl W.heap.size W).drew
  go_region_held3 (fun w' => w'.cell? ⟨g, 0, none⟩ = some (.int .i64 (k : Int)) ∧ w'.cell? ⟨g, 1, none⟩ = some (.int .u64 (e : Int)) ∧ w'.cell? ⟨g, 2, none⟩ = some (.slice A l.length c))
    (first | go_keep | (exact KS.out _ T4.out) | (exact KS.out _ T3.out) | (exact KS.out _ T2.out) | (exact KS.out _ T1.out))
    (first
      | (go_at_call 81; (with_reducible refine (k1' _).mono ?_); rintro x w2 ⟨A1, n1, rfl, O1, h1⟩; have P1 := Lib.hid (O1.bytes (by rw [numB_length]; simp [maxLen])); have T2 := Lib.hid (T1.out.trans (h1.mono T1.out.size)); clear O1 h1)
      | (go_at_call 81; (with_reducible refine (k2 _).mono ?_); rintro x w3 ⟨A2, n2, rfl, O2, h2⟩; have P2 := Lib.hid (O2.bytes (by rw [numB_length]; simp [maxLen])); have P1b := Lib.hid ((P1.out.below h2).more h2.size); have T3 := Lib.hid (T2.out.trans (h2.mono T2.out.size)); have V3 := Lib.hid ((HV1.out.below T3.out).more T3.out.size); clear O2 h2)
      | (go_at_call 80; revert P2 P1b T3 V3; intro P2 P1b T3 V3; (refine (join_any _ [numB 1 k, numB 8 e, l] _ (w3.heap.size + 1) (by simp) (Parts.new (Each.cons P1b.out (Each.cons P2.out (Each.cons V3.out Each.nil))) (Nat.le_refl _) (by simp [maxLen]) 3 rfl _ rfl _ (Nat.lt_succ_self _) _ _ rfl) (by rw [hfl.out, nb_length]; omega)).mono ?_); rintro x w4 ⟨g4, c4, rfl, hg4, O4, h4⟩; rw [hfl.out] at O4; have T4 := Lib.hid ((T3.out.alloc T3.out.size _).trans (h4.mono (T3.out.alloc T3.out.size _).size)); have O5 := Lib.hid (O4.lower (Nat.le_trans b1.out.size (T3.out.alloc T3.out.size _).size)); clear O4 h4 hg4))
  rw [nb_length] at O5
  rw [show (numB 1 k).length + ((numB 8 e).length + l.length) = 9 + l.length by rw [numB_length, numB_length]; omega]
  go_wp2
  go_ret2
  exact ⟨_, _, rfl, O5.out, b1.out.trans (T4.out.mono b1.out.size)⟩
theorem nwrite_no (k : Int) (e : Nat) (v : Value) (l : List UInt8) (w : World) (hv : Bytes w w.heap.size v l) (h : (k < 0 ∨ 255 < k) ∨ 224 < l.length) :
    Calls Try.prog 63 #[.agg #[.int .i64 k, .int .u64 (e : Int), v]] w fun x w' => x = .returned (.tuple #[.slice none 0 0, .int .i64 1]) ∧ Below w.heap.size w w' := by
  obtain ⟨A, c, rfl, hc, hm, hr⟩ := hv
  unfold maxLen at hm
  have b1 := Lib.hid ((Below.refl w.heap.size w).alloc (Nat.le_refl _) (.cells #[.int .i64 k, .int .u64 (e : Int), .slice A l.length c] 121))
  clear hr
  by_cases hk : k < 0 ∨ 255 < k
  · go_enter Try.func63, Try.ntmps63
    go_wp2_with ((with_reducible refine (isKey_no k hk _).mono ?_); rintro e w' ⟨rfl, rfl⟩)
    go_ret2
    exact ⟨rfl, b1.out⟩
  · have hl : 224 < l.length := by omega
    have d1 : decide ((224 : Int) < (l.length : Int)) = true := by simp; omega
    obtain ⟨n, rfl⟩ : ∃ n : Nat, k = n := ⟨k.toNat, by omega⟩
    have hn : n < 256 := by omega
    go_enter Try.func63, Try.ntmps63
    go_wp2_with ((with_reducible refine (isKey_yes n hn _).mono ?_); rintro e w' ⟨rfl, rfl⟩)
    go_ret2
    exact ⟨rfl, b1.out⟩
end Go.Proofs.Ytppodbijdhcclaa

/- node.weight, node.Has, and the reference's Has: the bit of a key. No condition. -/
namespace Go.Proofs.Ytppodbijdhcclaa
open Go.RowKit
theorem bits_and8 {a b : Nat} (ha : a < 256) (hb : b < 256) : bits .and .u8 (a : Int) (b : Int) = ((a &&& b : Nat) : Int) := by
  have h : a &&& b ≤ a := Nat.and_le_left
  show IntKind.u8.wrap ((BitVec.ofInt 8 (a : Int) &&& BitVec.ofInt 8 (b : Int)).toNat : Int) = _
  rw [BitVec.toNat_and, BitVec.ofInt_natCast, BitVec.ofInt_natCast, BitVec.toNat_ofNat, BitVec.toNat_ofNat, Nat.mod_eq_of_lt ha, Nat.mod_eq_of_lt hb, IntKind.wrap_u8]
  omega
theorem bits_or8 {a b : Nat} (ha : a < 256) (hb : b < 256) : bits .or .u8 (a : Int) (b : Int) = ((a ||| b : Nat) : Int) := by
  have h : a ||| b < 2 ^ 8 := Nat.or_lt_two_pow ha hb
  show IntKind.u8.wrap ((BitVec.ofInt 8 (a : Int) ||| BitVec.ofInt 8 (b : Int)).toNat : Int) = _
  rw [BitVec.toNat_or, BitVec.ofInt_natCast, BitVec.ofInt_natCast, BitVec.toNat_ofNat, BitVec.toNat_ofNat, Nat.mod_eq_of_lt ha, Nat.mod_eq_of_lt hb, IntKind.wrap_u8]
  omega
theorem bits_xor8 {a b : Nat} (ha : a < 256) (hb : b < 256) : bits .xor .u8 (a : Int) (b : Int) = ((a ^^^ b : Nat) : Int) := by
  have h : a ^^^ b < 2 ^ 8 := Nat.xor_lt_two_pow ha hb
  show IntKind.u8.wrap ((BitVec.ofInt 8 (a : Int) ^^^ BitVec.ofInt 8 (b : Int)).toNat : Int) = _
  rw [BitVec.toNat_xor, BitVec.ofInt_natCast, BitVec.ofInt_natCast, BitVec.toNat_ofNat, BitVec.toNat_ofNat, Nat.mod_eq_of_lt ha, Nat.mod_eq_of_lt hb, IntKind.wrap_u8]
  omega
theorem bits_andNot8 {a b : Nat} (ha : a < 256) (hb : b < 256) : bits .andNot .u8 (a : Int) (b : Int) = ((a &&& (255 - b) : Nat) : Int) := by
  have h : a &&& (255 - b) ≤ a := Nat.and_le_left
  show IntKind.u8.wrap ((BitVec.ofInt 8 (a : Int) &&& ~~~(BitVec.ofInt 8 (b : Int))).toNat : Int) = _
  rw [BitVec.toNat_and, BitVec.toNat_not, BitVec.ofInt_natCast, BitVec.ofInt_natCast, BitVec.toNat_ofNat, BitVec.toNat_ofNat, Nat.mod_eq_of_lt ha, Nat.mod_eq_of_lt hb, IntKind.wrap_u8, show 2 ^ 8 - 1 - b = 255 - b from rfl]
  omega
theorem pow8_lt {r : Nat} (hr : r < 8) : 2 ^ r < 256 := Nat.pow_lt_pow_right (by omega) (show r < 8 from hr)
theorem pow8_int {r : Nat} (hr : r < 8) : (2 : Int) ^ r % 256 = ((2 ^ r : Nat) : Int) := by
  have h := pow8_lt hr
  have e : (2 : Int) ^ r = ((2 ^ r : Nat) : Int) := by push_cast; rfl
  rw [e]
  exact Int.emod_eq_of_lt (Int.natCast_nonneg _) (show ((2 ^ r : Nat) : Int) < ((256 : Nat) : Int) from Int.ofNat_lt.2 h)
theorem weight_any (k : Nat) (w : World) (hk : k < 256) : Calls Try.prog 67 #[.int .i64 (k : Int)] w fun e w' => e = .returned (.int .u8 ((2 ^ (k % 8) : Nat) : Int)) ∧ w = w' := by
  have hr : k % 8 < 8 := Nat.mod_lt _ (by omega)
  have h1 : (k : Int) % 8 = ((k % 8 : Nat) : Int) := by omega
  obtain ⟨r, hR⟩ : ∃ r, r = k % 8 := ⟨_, rfl⟩
  rw [← hR] at hr h1 ⊢
  have hp := Lib.hid (pow8_int hr)
  obtain ⟨p, hP⟩ : ∃ p, p = 2 ^ r := ⟨_, rfl⟩
  rw [← hP] at hp ⊢
  clear hR hP
  go_enter Try.func67, Try.ntmps67
  go_wp2
  go_ret
  exact ⟨congrArg Ending.returned (congrArg (Value.int IntKind.u8) hp.out), rfl⟩
theorem ldrewN_below (w : World) : ∀ m, Below w.heap.size w (w.drewN m)
  | 0 => Below.refl _ _
  | m + 1 => (ldrewN_below w m).drew
theorem lhas_nat (L : List UInt8) {k : Nat} (hk : k < 256) : lhas L (k : Int) = hasB L k := by
  unfold lhas
  rw [decide_eq_true (by omega), Bool.true_and, Int.toNat_natCast]
theorem LArr.byte {w : World} {g : Nat} {L : List UInt8} (h : LArr w g L) {j : Nat} (hj : j < 32) : w.cell? ⟨g, j, none⟩ = some (.int .u8 ((L.getD j 0).toNat : Int)) := by
  have hl : j < L.length := by rw [h.2]; exact hj
  rw [h.cell, cl_get hl, List.getD_eq_getElem?_getD, List.getElem?_eq_getElem hl, Option.getD_some]
/-- the walk of Has, where the key may be: the byte x, the bit p -/
theorem has_walk (C : Array Value) (k j x p : Nat) (b : Bool) (w : World) (hk : k < 256) (hi : (k : Int) / 8 = (j : Int)) (h32 : j < 32)
    (hc : (w.alloc (.cells C 53)).cell? ⟨w.heap.size, j, none⟩ = some (.int .u8 (x : Int)))
    (q2 : ∀ w, Calls Try.prog 67 #[.int .i64 (k : Int)] w fun e w' => e = .returned (.int .u8 (p : Int)) ∧ w = w')
    (hb : (bits .and .u8 (x : Int) (p : Int) != 0) = b) :
    Calls Try.prog 44 #[.agg C, .int .i64 (k : Int)] w fun e w' => e = .returned (.bool b) ∧ ∃ m, w' = (w.alloc (.cells C 53)).drewN m := by
  have HB := Lib.hid hb
  clear hb
  have hc2 : ∀ m, ((w.alloc (.cells C 53)).drewN m).cell? ⟨w.heap.size, j, none⟩ = some (.int .u8 (x : Int)) := fun m => hc
  have k1 : ∀ m, Calls Try.prog 66 #[.int .i64 (k : Int)] ((w.alloc (.cells C 53)).drewN m) fun e w' => e = .returned (.bool true) ∧ w' = (w.alloc (.cells C 53)).drewN m := fun m => (isKey_yes k hk _).mono fun _ _ h => ⟨h.1, h.2.symm⟩
  have k2 : ∀ m, Calls Try.prog 67 #[.int .i64 (k : Int)] ((w.alloc (.cells C 53)).drewN m) fun e w' => e = .returned (.int .u8 (p : Int)) ∧ w' = (w.alloc (.cells C 53)).drewN m := fun m => (q2 _).mono fun _ _ h => ⟨h.1, h.2.symm⟩
  have hj0 : (0 : Int) ≤ (j : Int) := by omega
  have hj1 : (j : Int) < 32 := by omega
  go_enter Try.func44, Try.ntmps44
  go_wp2_with fail
  go_quiet (first | (go_at_call 66; exact Calls.quiet_of_same (k1 _)) | (go_at_call 67; exact Calls.quiet_of_same (k2 _)))
  go_wp2_with fail
  go_ret
  exact ⟨congrArg Ending.returned (congrArg Value.bool HB.out), _, rfl⟩
theorem has_walk_no (C : Array Value) (z : Int) (w : World) (hz : z < 0 ∨ 255 < z) :
    Calls Try.prog 44 #[.agg C, .int .i64 z] w fun e w' => e = .returned (.bool false) ∧ ∃ m, w' = (w.alloc (.cells C 53)).drewN m := by
  have k1 : ∀ m, Calls Try.prog 66 #[.int .i64 z] ((w.alloc (.cells C 53)).drewN m) fun e w' => e = .returned (.bool false) ∧ w' = (w.alloc (.cells C 53)).drewN m := fun m => (isKey_no z hz _).mono fun _ _ h => ⟨h.1, h.2.symm⟩
  clear hz
  go_enter Try.func44, Try.ntmps44
  go_wp2_with fail
  go_quiet (first | (go_at_call 66; exact Calls.quiet_of_same (k1 _)))
  go_wp2_with fail
  go_ret
  exact ⟨rfl, _, rfl⟩
theorem bit_byte {L : List UInt8} {k : Nat} : (bits .and .u8 ((L.getD (k / 8) 0).toNat : Int) ((2 ^ (k % 8) : Nat) : Int) != 0) = hasB L k := by
  have hr : k % 8 < 8 := Nat.mod_lt _ (by omega)
  have hx := getD_lt L (k / 8)
  rw [bits_and8 hx (pow8_lt hr), Bool.eq_iff_iff, show (hasB L k = true) ↔ _ from (and_bit hx hr).symm]
  simp only [bne_iff_ne, ne_eq, Int.natCast_eq_zero]
theorem has_any (L : List UInt8) (hL : L.length = 32) (z : Int) (w : World) : Calls Try.prog 44 #[.agg (cl L), .int .i64 z] w fun e w' => e = .returned (.bool (lhas L z)) ∧ Below w.heap.size w w' := by
  have hB : ∀ m, Below w.heap.size w ((w.alloc (.cells (cl L) 53)).drewN m) := fun m => ((Below.refl w.heap.size w).alloc (Nat.le_refl _) _).trans ((ldrewN_below _ m).mono (by rw [World.size_alloc]; omega))
  by_cases hz : 0 ≤ z ∧ z < 256
  · obtain ⟨k, rfl⟩ : ∃ k : Nat, z = k := ⟨z.toNat, by omega⟩
    have hk : k < 256 := by omega
    rw [lhas_nat L hk]
    refine (has_walk (cl L) k (k / 8) _ _ _ w hk (by omega) (by omega) ((LArr.new w hL).byte (by omega)) (fun w => weight_any k w hk) bit_byte).mono ?_
    rintro e w' ⟨rfl, m, rfl⟩
    exact ⟨rfl, hB m⟩
  · have e0 : lhas L z = false := by unfold lhas; rw [decide_eq_false hz, Bool.false_and]
    rw [e0]
    refine (has_walk_no (cl L) z w (by omega)).mono ?_
    rintro e w' ⟨rfl, m, rfl⟩
    exact ⟨rfl, hB m⟩
end Go.Proofs.Ytppodbijdhcclaa

/- The reference's Has and Set. No condition. -/
namespace Go.Proofs.Ytppodbijdhcclaa
open Go.RowKit
theorem refhas_walk (C : Array Value) (k j x r : Nat) (b : Bool) (w : World) (hk : k < 256) (hi : (k : Int) / 8 = (j : Int)) (h32 : j < 32) (_ : r < 8) (hm : (k : Int) % 8 = (r : Int)) (hx : x < 256)
    (hc : (w.alloc (.cells C 53)).cell? ⟨w.heap.size, j, none⟩ = some (.int .u8 (x : Int)))
    (hb : (((x : Int) / 2 ^ r).tmod 2 == 1) = b) :
    Calls Try.prog 42 #[.agg C, .int .i64 (k : Int)] w fun e w' => e = .returned (.bool b) ∧ w' = w.alloc (.cells C 53) := by
  have HB := Lib.hid hb
  clear hb
  have hj0 : (0 : Int) ≤ (j : Int) := by omega
  have hj1 : (j : Int) < 32 := by omega
  have d1 : ¬ (k : Int) < 0 := by omega
  have d2 : ¬ (255 : Int) < (k : Int) := by omega
  go_enter Try.func42, Try.ntmps42
  go_wp2_with fail
  go_ret
  exact ⟨congrArg Ending.returned (congrArg Value.bool HB.out), rfl⟩
theorem refhas_no (C : Array Value) (z : Int) (w : World) (hz : z < 0 ∨ 255 < z) :
    Calls Try.prog 42 #[.agg C, .int .i64 z] w fun e w' => e = .returned (.bool false) ∧ w' = w.alloc (.cells C 53) := by
  by_cases h : z < 0
  · clear hz
    go_enter Try.func42, Try.ntmps42
    go_wp2_with fail
    go_ret
    exact ⟨rfl, rfl⟩
  · have h2 : 255 < z := by omega
    clear hz
    go_enter Try.func42, Try.ntmps42
    go_wp2_with fail
    go_ret
    exact ⟨rfl, rfl⟩
theorem refbit_byte {L : List UInt8} {k : Nat} : ((((L.getD (k / 8) 0).toNat : Int) / 2 ^ (k % 8)).tmod 2 == 1) = hasB L k := by
  have hr : k % 8 < 8 := Nat.mod_lt _ (by omega)
  have hx := getD_lt L (k / 8)
  have h := shr_bit hx hr
  rw [Nat.shiftRight_eq_div_pow] at h
  have e : ((L.getD (k / 8) 0).toNat : Int) / 2 ^ (k % 8) = (((L.getD (k / 8) 0).toNat / 2 ^ (k % 8) : Nat) : Int) := by push_cast; rfl
  rw [e, Bool.eq_iff_iff, show (hasB L k = true) ↔ _ from h.symm, beq_iff_eq, Int.tmod_eq_emod_of_nonneg (Int.natCast_nonneg _)]
  omega
theorem refhas_any (L : List UInt8) (hL : L.length = 32) (z : Int) (w : World) : Calls Try.prog 42 #[.agg (cl L), .int .i64 z] w fun e w' => e = .returned (.bool (lhas L z)) ∧ Below w.heap.size w w' := by
  have hB : Below w.heap.size w (w.alloc (.cells (cl L) 53)) := (Below.refl w.heap.size w).alloc (Nat.le_refl _) _
  by_cases hz : 0 ≤ z ∧ z < 256
  · obtain ⟨k, rfl⟩ : ∃ k : Nat, z = k := ⟨z.toNat, by omega⟩
    have hk : k < 256 := by omega
    rw [lhas_nat L hk]
    refine (refhas_walk (cl L) k (k / 8) _ (k % 8) _ w hk (by omega) (by omega) (by omega) (by omega) (getD_lt L _) ((LArr.new w hL).byte (by omega)) refbit_byte).mono ?_
    rintro e w' ⟨rfl, rfl⟩
    exact ⟨rfl, hB⟩
  · have e0 : lhas L z = false := by unfold lhas; rw [decide_eq_false hz, Bool.false_and]
    rw [e0]
    refine (refhas_no (cl L) z w (by omega)).mono ?_
    rintro e w' ⟨rfl, rfl⟩
    exact ⟨rfl, hB⟩
end Go.Proofs.Ytppodbijdhcclaa

/- The reference's Set. No condition. -/
namespace Go.Proofs.Ytppodbijdhcclaa
open Go.RowKit
/-- a result that is an array -/
theorem lret1 {fn : Func} {p : Tmp} {w : World} {g : Nat} {L : List UInt8} (h : fn.results = #[.cell p 53]) (tmps : Array Value) (hA : LArr w g L) (hp : tmps.getD p undef = .pointer (some ⟨g, 0, none⟩)) :
    (results fn tmps).run Try.prog w = .ok (.agg (cl L)) w := by
  have hp' : tmps[p]?.getD undef = .pointer (some ⟨g, 0, none⟩) := by simpa using hp
  simp [results, h, hp', asAddr, hA.load]
set_option maxRecDepth 100000 in
set_option maxHeartbeats 4000000 in
/-- .. where nothing is changed -/
theorem set_out (L : List UInt8) (hL : L.length = 32) (z : Int) (b : Bool) (w : World) (hz : z < 0 ∨ 255 < z) :
    Calls Try.prog 125 #[.agg (cl L), .int .i64 z, .bool b] w fun e w' => e = .returned (.agg (cl L)) ∧ Below w.heap.size w w' := by
  have A0 := larr_one w hL lzeros
  have R0 := larr_two w L lzeros_length
  have B0 := Lib.hid (lhb_two w L lzeros)
  have z0 := zeroLive
  by_cases h : z < 0
  · clear hz
    go_enter Try.func125, Try.ntmps125
    go_wp2_with (first | (with_reducible refine wpl_lload (.tmp 3) rfl rfl A0.out rfl ?_) | (with_reducible refine wpl_lstore (.tmp 6) (.tmp 20) rfl rfl R0.out rfl hL rfl ?_; intro w4 R4 g4 e4))
    refine bodyPost_ret (lret1 rfl _ R4 rfl) rfl ?_
    exact ⟨rfl, B0.out.grown g4 B0.out.size (fun k e => by cases e; omega)⟩
  · have h2 : 255 < z := by omega
    clear hz
    go_enter Try.func125, Try.ntmps125
    go_wp2_with (first | (with_reducible refine wpl_lload (.tmp 3) rfl rfl A0.out rfl ?_) | (with_reducible refine wpl_lstore (.tmp 6) (.tmp 20) rfl rfl R0.out rfl hL rfl ?_; intro w4 R4 g4 e4))
    refine bodyPost_ret (lret1 rfl _ R4 rfl) rfl ?_
    exact ⟨rfl, B0.out.grown g4 B0.out.size (fun k e => by cases e; omega)⟩
set_option maxRecDepth 100000 in
set_option maxHeartbeats 4000000 in
theorem set_same (L : List UInt8) (hL : L.length = 32) (k : Nat) (hk : k < 256) (b : Bool) (w : World) (hb : hasB L k = b) :
    Calls Try.prog 125 #[.agg (cl L), .int .i64 (k : Int), .bool b] w fun e w' => e = .returned (.agg (cl L)) ∧ Below w.heap.size w w' := by
  have A0 := larr_one w hL lzeros
  have R0 := larr_two w L lzeros_length
  have B0 := Lib.hid (lhb_two w L lzeros)
  have z0 := zeroLive
  have d1 : ¬ (k : Int) < 0 := by omega
  have d2 : ¬ (255 : Int) < (k : Int) := by omega
  have c1 := refhas_any L hL (k : Int)
  rw [lhas_nat L hk, hb] at c1
  have d3 : (b == b) = true := by simp
  clear hb
  go_enter Try.func125, Try.ntmps125
  go_wp2_with (first | (with_reducible refine wpl_lload (.tmp 3) rfl rfl A0.out rfl ?_))
  ((with_reducible refine (c1 _).mono ?_); rintro e w2 ⟨rfl, hb1⟩)
  have A2 := Lib.hid (A0.out.after hb1)
  have R2 := Lib.hid (R0.out.after hb1)
  have B2 := Lib.hid (B0.out.trans (hb1.mono B0.out.size))
  clear hb1 A0 R0 B0
  go_wp2_with (first | (with_reducible refine wpl_lload (.tmp 3) rfl rfl A2.out rfl ?_) | (with_reducible refine wpl_lstore (.tmp 6) (.tmp 20) rfl rfl R2.out rfl hL rfl ?_; intro w4 R4 g4 e4))
  refine bodyPost_ret (lret1 rfl _ R4 rfl) rfl ?_
  exact ⟨rfl, B2.out.grown g4 B2.out.size (fun k e => by cases e; omega)⟩
set_option maxRecDepth 100000 in
set_option maxHeartbeats 4000000 in
theorem set_flip (L : List UInt8) (hL : L.length = 32) (k j r x p : Nat) (B : UInt8) (hk : k < 256) (b c : Bool) (w : World) (hb : hasB L k = c) (hne : (c == b) = false) (hi : (k : Int) / 8 = (j : Int)) (h32 : j < 32) (_ : r < 8) (hm : (k : Int) % 8 = (r : Int))
    (hx : (L.getD j 0).toNat = x) (hp : (2 : Int) ^ r % 256 = (p : Int)) (hB : bits .xor .u8 (x : Int) (p : Int) = ((B.toNat : Nat) : Int)) :
    Calls Try.prog 125 #[.agg (cl L), .int .i64 (k : Int), .bool b] w fun e w' => e = .returned (.agg (cl (L.set j B))) ∧ Below w.heap.size w w' := by
  have A0 := larr_one w hL lzeros
  have R0 := larr_two w L lzeros_length
  have B0 := Lib.hid (lhb_two w L lzeros)
  have z0 := zeroLive
  have d1 : ¬ (k : Int) < 0 := by omega
  have d2 : ¬ (255 : Int) < (k : Int) := by omega
  have hj0 : (0 : Int) ≤ (j : Int) := by omega
  have hj1 : (j : Int) < 32 := by omega
  have c1 := refhas_any L hL (k : Int)
  rw [lhas_nat L hk, hb] at c1
  have HX := Lib.hid hx
  have HL := Lib.hid hL
  have H32 := Lib.hid h32
  clear hb hx hL
  go_enter Try.func125, Try.ntmps125
  go_wp2_with (first | (with_reducible refine wpl_lload (.tmp 3) rfl rfl A0.out rfl ?_))
  ((with_reducible refine (c1 _).mono ?_); rintro e w2 ⟨rfl, hb1⟩)
  have A2 := Lib.hid (A0.out.after hb1)
  have R2 := Lib.hid (R0.out.after hb1)
  have B2 := Lib.hid (B0.out.trans (hb1.mono B0.out.size))
  have hc := A2.out.byte H32.out
  rw [HX.out] at hc
  have L5 : Hid ((L.set j B).length = 32) := Lib.hid (by rw [List.length_set]; exact HL.out)
  clear hb1 A0 R0 B0
  go_wp2_with (first | (with_reducible refine wpl_lput (.tmp 30) (.tmp 29) rfl rfl A2.out j H32.out B rfl rfl ?_; intro w4 A4 g4; have A5 := Lib.hid A4; have R5 := Lib.hid (R2.out.grown g4 (by omega)); have B5 := Lib.hid (B2.out.grown g4 B2.out.size (fun k e => by cases e; omega)); clear A4 g4) | (with_reducible refine wpl_lload (.tmp 3) rfl rfl A5.out rfl ?_) | (with_reducible refine wpl_lstore (.tmp 6) (.tmp 31) rfl rfl R5.out rfl L5.out rfl ?_; intro w6 R6 g6 e6))
  refine bodyPost_ret (lret1 rfl _ R6 rfl) rfl ?_
  exact ⟨rfl, B5.out.grown g6 B5.out.size (fun k e => by cases e; omega)⟩
theorem ofNat_xor {x p : Nat} (hx : x < 256) (hp : p < 256) : bits .xor .u8 (x : Int) (p : Int) = (((UInt8.ofNat (x ^^^ p)).toNat : Nat) : Int) := by
  have h : x ^^^ p < 2 ^ 8 := Nat.xor_lt_two_pow hx hp
  rw [bits_xor8 hx hp, UInt8.toNat_ofNat', Nat.mod_eq_of_lt h]
theorem set_any (L : List UInt8) (hL : L.length = 32) (z : Int) (b : Bool) (w : World) :
    Calls Try.prog 125 #[.agg (cl L), .int .i64 z, .bool b] w fun e w' => e = .returned (.agg (cl (lput L b z))) ∧ Below w.heap.size w w' := by
  unfold lput
  by_cases hz : 0 ≤ z ∧ z < 256
  · obtain ⟨k, rfl⟩ : ∃ k : Nat, z = k := ⟨z.toNat, by omega⟩
    have hk : k < 256 := by omega
    rw [if_pos hz, Int.toNat_natCast]
    unfold putB
    by_cases h : hasB L k = b
    · rw [if_pos h]
      exact set_same L hL k hk b w h
    · rw [if_neg h]
      have hr : k % 8 < 8 := Nat.mod_lt _ (by omega)
      exact set_flip L hL k (k / 8) (k % 8) _ _ _ hk b _ w rfl (by simpa using h) (by omega) (by omega) hr (by omega) rfl (pow8_int hr) (ofNat_xor (getD_lt L _) (pow8_lt hr))
  · rw [if_neg hz]
    exact set_out L hL z b w (by omega)
end Go.Proofs.Ytppodbijdhcclaa

/- With and Without: the keys of a list put in, or taken out. No condition. (written by gen_lwith.py) -/
namespace Go.Proofs.Ytppodbijdhcclaa
open Go.RowKit
theorem set_self (L : List UInt8) (i : Nat) : L.set i (UInt8.ofNat (L.getD i 0).toNat) = L := by
  rw [UInt8.ofNat_toNat]
  apply List.ext_getElem (by simp)
  intro j h1 h2
  rw [List.getElem_set]
  by_cases e : i = j
  · subst e
    rw [if_pos rfl, List.getD_eq_getElem?_getD, List.getElem?_eq_getElem h2, Option.getD_some]
  · rw [if_neg e]
theorem or_put (L : List UInt8) (k : Nat) : L.set (k / 8) (UInt8.ofNat ((L.getD (k / 8) 0).toNat ||| 2 ^ (k % 8))) = putB L k true := by
  have e : (L.getD (k / 8) 0).toNat ||| 2 ^ (k % 8) = if hasB L k = true then (L.getD (k / 8) 0).toNat else (L.getD (k / 8) 0).toNat ^^^ 2 ^ (k % 8) := or_bit (getD_lt L (k / 8)) (show k % 8 < 8 from Nat.mod_lt _ (by omega))
  unfold putB
  by_cases h : hasB L k = true
  · rw [if_pos h, e, if_pos h, set_self]
  · rw [if_neg h, e, if_neg h]
theorem andNot_put (L : List UInt8) (k : Nat) : L.set (k / 8) (UInt8.ofNat ((L.getD (k / 8) 0).toNat &&& (255 - 2 ^ (k % 8)))) = putB L k false := by
  have e : (L.getD (k / 8) 0).toNat &&& (255 - 2 ^ (k % 8)) = if hasB L k = false then (L.getD (k / 8) 0).toNat else (L.getD (k / 8) 0).toNat ^^^ 2 ^ (k % 8) := andNot_bit (getD_lt L (k / 8)) (show k % 8 < 8 from Nat.mod_lt _ (by omega))
  unfold putB
  by_cases h : hasB L k = false
  · rw [if_pos h, e, if_pos h, set_self]
  · rw [if_neg h, e, if_neg h]
theorem or_ofNat {x p : Nat} (hx : x < 256) (hp : p < 256) : bits .or .u8 (x : Int) (p : Int) = (((UInt8.ofNat (x ||| p)).toNat : Nat) : Int) := by
  have h : x ||| p < 2 ^ 8 := Nat.or_lt_two_pow hx hp
  rw [bits_or8 hx hp, UInt8.toNat_ofNat', Nat.mod_eq_of_lt h]
theorem andNot_ofNat {x p : Nat} (hx : x < 256) (hp : p < 256) : bits .andNot .u8 (x : Int) (p : Int) = (((UInt8.ofNat (x &&& (255 - p))).toNat : Nat) : Int) := by
  have h : x &&& (255 - p) ≤ x := Nat.and_le_left
  rw [bits_andNot8 hx hp, UInt8.toNat_ofNat', Nat.mod_eq_of_lt (by omega)]
theorem take_snocI (zs : List Int) {k : Nat} (h : k < zs.length) : zs.take (k + 1) = zs.take k ++ [zs[k]] := by
  rw [List.take_add_one, List.getElem?_eq_getElem h]
  rfl
theorem lputs_take (L : List UInt8) (b : Bool) (zs : List Int) {k : Nat} (h : k < zs.length) : lputs L b (zs.take (k + 1)) = lput (lputs L b (zs.take k)) b zs[k] := by
  rw [take_snocI zs h, lputs_snoc]
set_option maxRecDepth 100000 in
set_option maxHeartbeats 8000000 in
theorem with_any (L : List UInt8) (hL : L.length = 32) (A : Option Addr) (c : Nat) (zs : List Int) (w : World) (hr : Row w w.heap.size A (zs.map (Value.int .i64))) (hz : zs.length ≤ 1000) :
    Calls Try.prog 64 #[.agg (cl L), .slice A zs.length c] w fun e w' => e = .returned (.agg (cl (lputs L true zs))) ∧ Below w.heap.size w w' := by
  have A0 := larr_one w hL lzeros
  have R0 := larr_two w L lzeros_length
  have B0 := Lib.hid (lhb_two w L lzeros)
  have z0 := zeroLive
  have HR := Lib.hid hr
  have HL := Lib.hid hL
  clear hr hL
  go_enter Try.func64, Try.ntmps64
  go_wp2_with fail
  go_loopw [9] (fun i wr => ∃ k : Nat, k ≤ zs.length ∧ i = .int .i64 k ∧ Hid (LArr wr w.heap.size (lputs L true (zs.take k))) ∧ Hid (LArr wr (w.heap.size + 1) lzeros) ∧ Hid (Below w.heap.size w wr)) (fun i _ => zs.length - (intOf i).toNat)
  case atStart => exact ⟨0, Nat.zero_le _, rfl, A0, R0, B0⟩
  case round =>
    clear A0 R0 B0
    rename_i wr
    obtain ⟨k, hk, rfl, hA, hR, hb⟩ := hrel
    by_cases hlt : k < zs.length
    · obtain ⟨a, rfl, hab, hcz⟩ := HR.out.at_ (k := k) (by simpa using hlt)
      rw [List.getElem_map] at hcz
      have HT := Lib.hid (lputs_take L true zs hlt)
      obtain ⟨z, hzq⟩ : ∃ z, z = zs[k] := ⟨_, rfl⟩
      rw [← hzq] at hcz HT
      have hc2 := (hb.out.cell (p := a.add k) (by rw [add_block]; exact hab)).trans hcz
      clear hzq hcz
      obtain ⟨M, hM⟩ : ∃ M, M = lputs L true (zs.take k) := ⟨_, rfl⟩
      rw [← hM] at HT hA
      clear hM
      by_cases hin : 0 ≤ z ∧ z < 256
      · obtain ⟨q, rfl⟩ : ∃ q : Nat, z = q := ⟨z.toNat, by omega⟩
        have hq : q < 256 := by omega
        have HT2 : Hid (lputs L true (zs.take (k + 1)) = putB M q true) := Lib.hid (by rw [HT.out, lput, if_pos hin, Int.toNat_natCast])
        have hi : (q : Int) / 8 = ((q / 8 : Nat) : Int) := by omega
        have h32 : q / 8 < 32 := by omega
        have hr8 : q % 8 < 8 := Nat.mod_lt _ (by omega)
        have hv := or_ofNat (getD_lt M (q / 8)) (pow8_lt hr8)
        have hp := or_put M q
        have hx := hA.out.byte h32
        have hf := hA.out.free (q / 8)
        have K2 : Hid (∀ w, Calls Try.prog 67 #[.int .i64 (q : Int)] w fun e w' => e = .returned (.int .u8 ((2 ^ (q % 8) : Nat) : Int)) ∧ w = w') := Lib.hid (fun w => weight_any q w hq)
        obtain ⟨p, hP⟩ : ∃ p, p = 2 ^ (q % 8) := ⟨_, rfl⟩
        obtain ⟨x, hX⟩ : ∃ x, x = (M.getD (q / 8) 0).toNat := ⟨_, rfl⟩
        obtain ⟨j, hJ⟩ : ∃ j, j = q / 8 := ⟨_, rfl⟩
        rw [← hP, ← hX] at hv hp
        rw [← hX] at hx
        rw [← hP] at K2
        rw [← hJ] at hi h32 hp hx hf
        obtain ⟨B, hB⟩ : ∃ B, B = UInt8.ofNat (x ||| p) := ⟨_, rfl⟩
        rw [← hB] at hv hp
        rw [← hp] at HT2
        clear hP hX hJ hB hp HT hr8
        have hj0 : (0 : Int) ≤ (j : Int) := by omega
        have hq0 : (0 : Int) ≤ (q : Int) := by omega
        have ht : (q : Int).tdiv 8 = (j : Int) := by rw [Int.tdiv_eq_ediv_of_nonneg hq0, hi]
        have hj1 : (j : Int) < 32 := by omega
        have hw : IntKind.i64.wrap (j : Int) = (j : Int) := by rw [IntKind.wrap_i64]; omega
        have KA : Hid (∀ v, LArr (wr.drew.setCell ⟨w.heap.size, j, none⟩ v) (w.heap.size + 1) lzeros) := Lib.hid (fun v => hR.out.drew.other _ v (by simp))
        have KB : Hid (∀ v, Below w.heap.size w (wr.drew.setCell ⟨w.heap.size, j, none⟩ v)) := Lib.hid (fun v => hb.out.drew.setCell (p := ⟨w.heap.size, j, none⟩) (Nat.le_refl _) v)
        have KM := Lib.hid (hA.out.drew.set j B)
        have hx' : wr.drew.cell? ⟨w.heap.size, j, none⟩ = some (.int .u8 (x : Int)) := hx
        have hf' : wr.drew.frozen? ⟨w.heap.size, j, none⟩ = false := hf
        clear hA hb hR
        go_wp2_with ((with_reducible refine (isKey_yes q hq _).mono ?_); rintro e w' ⟨rfl, rfl⟩)
        obtain ⟨W, hW⟩ : ∃ W, W = wr.drew := ⟨_, rfl⟩
        rw [← hW] at KA KB KM hx' hf'
        clear hx hf
        refine wp_region_held_drew (S := (fun _ => True)) (by kernel_rfl) trivial (fun _ => ?_)
        rw [← hW]
        clear hW hc2
        refine wpAnyH_take (i := 0) (v := .int .i64 q) rfl (by kernel_rfl) (by kernel_rfl) (by kernel_rfl) (fun _ _ _ h => h) (Or.inl ⟨by kernel_rfl, fun w _ => by go_simp⟩) trivial ?_
        refine wpAnyH_take (i := 1) (v := .int .i64 j) rfl (by kernel_rfl) (by kernel_rfl) (by kernel_rfl) (fun _ _ _ h => h) (Or.inl ⟨by kernel_rfl, fun w _ => by go_simp⟩) trivial ?_
        refine wpAnyH_take (i := 2) (v := .pointer (some ⟨w.heap.size, j, none⟩)) rfl (by kernel_rfl) (by kernel_rfl) (by kernel_rfl) (fun _ _ _ h => h) (Or.inl ⟨by kernel_rfl, fun w _ => by go_simp⟩) trivial ?_
        refine wpAnyH_take (i := 4) (v := .int .i64 q) rfl (by kernel_rfl) (by kernel_rfl) (by kernel_rfl) (fun _ _ _ h => h) (Or.inl ⟨by kernel_rfl, fun w _ => by go_simp⟩) trivial ?_
        refine wpAnyH_ready (rs := [3, 5]) (by kernel_rfl) (by simp) (AllReadyH.cons rfl (fun K hK => ?_) (AllReadyH.cons rfl (fun K hK => ?_) AllReadyH.nil))
        · go_simp
          refine hK.out _ _ trivial (fun _ => ?_)
          clear hK K
          refine wpAnyH_ready (rs := [5]) (by kernel_rfl) (by simp) (AllReadyH.cons rfl (fun K hK => ?_) AllReadyH.nil)
          go_simp
          ((with_reducible refine (K2.out _).mono ?_); rintro e w' ⟨rfl, rfl⟩)
          refine hK.out _ _ trivial (fun _ => ?_)
          clear hK K
          refine wpAnyH_take (i := 6) (v := .int .u8 (B.toNat : Int)) rfl (by kernel_rfl) (by kernel_rfl) (by kernel_rfl) (fun _ _ _ h => h) (Or.inl ⟨by kernel_rfl, fun w _ => by go_simp⟩) trivial ?_
          refine wpAnyH_take (i := 7) (v := .pointer (some ⟨w.heap.size, j, none⟩)) rfl (by kernel_rfl) (by kernel_rfl) (by kernel_rfl) (fun _ _ _ h => h) (Or.inl ⟨by kernel_rfl, fun w _ => by go_simp⟩) trivial ?_
          refine wpAnyH_ready (rs := [8]) (by kernel_rfl) (by simp) (AllReadyH.cons rfl (fun K hK => ?_) AllReadyH.nil)
          go_simp
          refine hK.out _ _ trivial (fun _ => ?_)
          clear hK K hx' hf'
          refine wpAnyH_done (by kernel_rfl) ?_ _
          go_simp
          go_wp2
          go_roundw
          case rel => exact ⟨k + 1, by omega, by go_num, Lib.hid (by rw [HT2.out]; exact KM.out), Lib.hid (KA.out _), Lib.hid (KB.out _)⟩
          case measure => simp [intOf]; omega
        · go_simp
          ((with_reducible refine (K2.out _).mono ?_); rintro e w' ⟨rfl, rfl⟩)
          refine hK.out _ _ trivial (fun _ => ?_)
          clear hK K
          refine wpAnyH_ready (rs := [3]) (by kernel_rfl) (by simp) (AllReadyH.cons rfl (fun K hK => ?_) AllReadyH.nil)
          go_simp
          refine hK.out _ _ trivial (fun _ => ?_)
          clear hK K
          refine wpAnyH_take (i := 6) (v := .int .u8 (B.toNat : Int)) rfl (by kernel_rfl) (by kernel_rfl) (by kernel_rfl) (fun _ _ _ h => h) (Or.inl ⟨by kernel_rfl, fun w _ => by go_simp⟩) trivial ?_
          refine wpAnyH_take (i := 7) (v := .pointer (some ⟨w.heap.size, j, none⟩)) rfl (by kernel_rfl) (by kernel_rfl) (by kernel_rfl) (fun _ _ _ h => h) (Or.inl ⟨by kernel_rfl, fun w _ => by go_simp⟩) trivial ?_
          refine wpAnyH_ready (rs := [8]) (by kernel_rfl) (by simp) (AllReadyH.cons rfl (fun K hK => ?_) AllReadyH.nil)
          go_simp
          refine hK.out _ _ trivial (fun _ => ?_)
          clear hK K hx' hf'
          refine wpAnyH_done (by kernel_rfl) ?_ _
          go_simp
          go_wp2
          go_roundw
          case rel => exact ⟨k + 1, by omega, by go_num, Lib.hid (by rw [HT2.out]; exact KM.out), Lib.hid (KA.out _), Lib.hid (KB.out _)⟩
          case measure => simp [intOf]; omega
      · have HT2 : Hid (lputs L true (zs.take (k + 1)) = M) := Lib.hid (by rw [HT.out, lput, if_neg hin])
        clear HT
        go_wp2_with ((with_reducible refine (isKey_no z (by omega) _).mono ?_); rintro e w' ⟨rfl, rfl⟩)
        go_roundw
        case rel => exact ⟨k + 1, by omega, by go_num, Lib.hid (by rw [HT2.out]; exact hA.out), hR, hb⟩
        case measure => simp [intOf]; omega
    · obtain rfl : k = zs.length := by omega
      rw [List.take_length] at hA
      have hl : Hid ((lputs L true zs).length = 32) := Lib.hid (by rw [lputs_length]; exact HL.out)
      go_wp2_with (first | (with_reducible refine wpl_lload (.tmp 2) rfl rfl hA.out rfl ?_) | (with_reducible refine wpl_lstore (.tmp 4) (.tmp 24) rfl rfl hR.out rfl hl.out rfl ?_; intro w4 R4 g4 e4))
      refine bodyPost_ret (lret1 rfl _ R4 rfl) rfl ?_
      exact ⟨rfl, hb.out.grown g4 hb.out.size (fun k e => by cases e; omega)⟩
set_option maxRecDepth 100000 in
set_option maxHeartbeats 8000000 in
theorem without_any (L : List UInt8) (hL : L.length = 32) (A : Option Addr) (c : Nat) (zs : List Int) (w : World) (hr : Row w w.heap.size A (zs.map (Value.int .i64))) (hz : zs.length ≤ 1000) :
    Calls Try.prog 65 #[.agg (cl L), .slice A zs.length c] w fun e w' => e = .returned (.agg (cl (lputs L false zs))) ∧ Below w.heap.size w w' := by
  have A0 := larr_one w hL lzeros
  have R0 := larr_two w L lzeros_length
  have B0 := Lib.hid (lhb_two w L lzeros)
  have z0 := zeroLive
  have HR := Lib.hid hr
  have HL := Lib.hid hL
  clear hr hL
  go_enter Try.func65, Try.ntmps65
  go_wp2_with fail
  go_loopw [9] (fun i wr => ∃ k : Nat, k ≤ zs.length ∧ i = .int .i64 k ∧ Hid (LArr wr w.heap.size (lputs L false (zs.take k))) ∧ Hid (LArr wr (w.heap.size + 1) lzeros) ∧ Hid (Below w.heap.size w wr)) (fun i _ => zs.length - (intOf i).toNat)
  case atStart => exact ⟨0, Nat.zero_le _, rfl, A0, R0, B0⟩
  case round =>
    clear A0 R0 B0
    rename_i wr
    obtain ⟨k, hk, rfl, hA, hR, hb⟩ := hrel
    by_cases hlt : k < zs.length
    · obtain ⟨a, rfl, hab, hcz⟩ := HR.out.at_ (k := k) (by simpa using hlt)
      rw [List.getElem_map] at hcz
      have HT := Lib.hid (lputs_take L false zs hlt)
      obtain ⟨z, hzq⟩ : ∃ z, z = zs[k] := ⟨_, rfl⟩
      rw [← hzq] at hcz HT
      have hc2 := (hb.out.cell (p := a.add k) (by rw [add_block]; exact hab)).trans hcz
      clear hzq hcz
      obtain ⟨M, hM⟩ : ∃ M, M = lputs L false (zs.take k) := ⟨_, rfl⟩
      rw [← hM] at HT hA
      clear hM
      by_cases hin : 0 ≤ z ∧ z < 256
      · obtain ⟨q, rfl⟩ : ∃ q : Nat, z = q := ⟨z.toNat, by omega⟩
        have hq : q < 256 := by omega
        have HT2 : Hid (lputs L false (zs.take (k + 1)) = putB M q false) := Lib.hid (by rw [HT.out, lput, if_pos hin, Int.toNat_natCast])
        have hi : (q : Int) / 8 = ((q / 8 : Nat) : Int) := by omega
        have h32 : q / 8 < 32 := by omega
        have hr8 : q % 8 < 8 := Nat.mod_lt _ (by omega)
        have hv := andNot_ofNat (getD_lt M (q / 8)) (pow8_lt hr8)
        have hp := andNot_put M q
        have hx := hA.out.byte h32
        have hf := hA.out.free (q / 8)
        have K2 : Hid (∀ w, Calls Try.prog 67 #[.int .i64 (q : Int)] w fun e w' => e = .returned (.int .u8 ((2 ^ (q % 8) : Nat) : Int)) ∧ w = w') := Lib.hid (fun w => weight_any q w hq)
        obtain ⟨p, hP⟩ : ∃ p, p = 2 ^ (q % 8) := ⟨_, rfl⟩
        obtain ⟨x, hX⟩ : ∃ x, x = (M.getD (q / 8) 0).toNat := ⟨_, rfl⟩
        obtain ⟨j, hJ⟩ : ∃ j, j = q / 8 := ⟨_, rfl⟩
        rw [← hP, ← hX] at hv hp
        rw [← hX] at hx
        rw [← hP] at K2
        rw [← hJ] at hi h32 hp hx hf
        obtain ⟨B, hB⟩ : ∃ B, B = UInt8.ofNat (x &&& (255 - p)) := ⟨_, rfl⟩
        rw [← hB] at hv hp
        rw [← hp] at HT2
        clear hP hX hJ hB hp HT hr8
        have hj0 : (0 : Int) ≤ (j : Int) := by omega
        have hq0 : (0 : Int) ≤ (q : Int) := by omega
        have ht : (q : Int).tdiv 8 = (j : Int) := by rw [Int.tdiv_eq_ediv_of_nonneg hq0, hi]
        have hj1 : (j : Int) < 32 := by omega
        have hw : IntKind.i64.wrap (j : Int) = (j : Int) := by rw [IntKind.wrap_i64]; omega
        have KA : Hid (∀ v, LArr (wr.drew.setCell ⟨w.heap.size, j, none⟩ v) (w.heap.size + 1) lzeros) := Lib.hid (fun v => hR.out.drew.other _ v (by simp))
        have KB : Hid (∀ v, Below w.heap.size w (wr.drew.setCell ⟨w.heap.size, j, none⟩ v)) := Lib.hid (fun v => hb.out.drew.setCell (p := ⟨w.heap.size, j, none⟩) (Nat.le_refl _) v)
        have KM := Lib.hid (hA.out.drew.set j B)
        have hx' : wr.drew.cell? ⟨w.heap.size, j, none⟩ = some (.int .u8 (x : Int)) := hx
        have hf' : wr.drew.frozen? ⟨w.heap.size, j, none⟩ = false := hf
        clear hA hb hR
        go_wp2_with ((with_reducible refine (isKey_yes q hq _).mono ?_); rintro e w' ⟨rfl, rfl⟩)
        obtain ⟨W, hW⟩ : ∃ W, W = wr.drew := ⟨_, rfl⟩
        rw [← hW] at KA KB KM hx' hf'
        clear hx hf
        refine wp_region_held_drew (S := (fun _ => True)) (by kernel_rfl) trivial (fun _ => ?_)
        rw [← hW]
        clear hW hc2
        refine wpAnyH_take (i := 0) (v := .int .i64 q) rfl (by kernel_rfl) (by kernel_rfl) (by kernel_rfl) (fun _ _ _ h => h) (Or.inl ⟨by kernel_rfl, fun w _ => by go_simp⟩) trivial ?_
        refine wpAnyH_take (i := 1) (v := .int .i64 j) rfl (by kernel_rfl) (by kernel_rfl) (by kernel_rfl) (fun _ _ _ h => h) (Or.inl ⟨by kernel_rfl, fun w _ => by go_simp⟩) trivial ?_
        refine wpAnyH_take (i := 2) (v := .pointer (some ⟨w.heap.size, j, none⟩)) rfl (by kernel_rfl) (by kernel_rfl) (by kernel_rfl) (fun _ _ _ h => h) (Or.inl ⟨by kernel_rfl, fun w _ => by go_simp⟩) trivial ?_
        refine wpAnyH_take (i := 4) (v := .int .i64 q) rfl (by kernel_rfl) (by kernel_rfl) (by kernel_rfl) (fun _ _ _ h => h) (Or.inl ⟨by kernel_rfl, fun w _ => by go_simp⟩) trivial ?_
        refine wpAnyH_ready (rs := [3, 5]) (by kernel_rfl) (by simp) (AllReadyH.cons rfl (fun K hK => ?_) (AllReadyH.cons rfl (fun K hK => ?_) AllReadyH.nil))
        · go_simp
          refine hK.out _ _ trivial (fun _ => ?_)
          clear hK K
          refine wpAnyH_ready (rs := [5]) (by kernel_rfl) (by simp) (AllReadyH.cons rfl (fun K hK => ?_) AllReadyH.nil)
          go_simp
          ((with_reducible refine (K2.out _).mono ?_); rintro e w' ⟨rfl, rfl⟩)
          refine hK.out _ _ trivial (fun _ => ?_)
          clear hK K
          refine wpAnyH_take (i := 6) (v := .int .u8 (B.toNat : Int)) rfl (by kernel_rfl) (by kernel_rfl) (by kernel_rfl) (fun _ _ _ h => h) (Or.inl ⟨by kernel_rfl, fun w _ => by go_simp⟩) trivial ?_
          refine wpAnyH_take (i := 7) (v := .pointer (some ⟨w.heap.size, j, none⟩)) rfl (by kernel_rfl) (by kernel_rfl) (by kernel_rfl) (fun _ _ _ h => h) (Or.inl ⟨by kernel_rfl, fun w _ => by go_simp⟩) trivial ?_
          refine wpAnyH_ready (rs := [8]) (by kernel_rfl) (by simp) (AllReadyH.cons rfl (fun K hK => ?_) AllReadyH.nil)
          go_simp
          refine hK.out _ _ trivial (fun _ => ?_)
          clear hK K hx' hf'
          refine wpAnyH_done (by kernel_rfl) ?_ _
          go_simp
          go_wp2
          go_roundw
          case rel => exact ⟨k + 1, by omega, by go_num, Lib.hid (by rw [HT2.out]; exact KM.out), Lib.hid (KA.out _), Lib.hid (KB.out _)⟩
          case measure => simp [intOf]; omega
        · go_simp
          ((with_reducible refine (K2.out _).mono ?_); rintro e w' ⟨rfl, rfl⟩)
          refine hK.out _ _ trivial (fun _ => ?_)
          clear hK K
          refine wpAnyH_ready (rs := [3]) (by kernel_rfl) (by simp) (AllReadyH.cons rfl (fun K hK => ?_) AllReadyH.nil)
          go_simp
          refine hK.out _ _ trivial (fun _ => ?_)
          clear hK K
          refine wpAnyH_take (i := 6) (v := .int .u8 (B.toNat : Int)) rfl (by kernel_rfl) (by kernel_rfl) (by kernel_rfl) (fun _ _ _ h => h) (Or.inl ⟨by kernel_rfl, fun w _ => by go_simp⟩) trivial ?_
          refine wpAnyH_take (i := 7) (v := .pointer (some ⟨w.heap.size, j, none⟩)) rfl (by kernel_rfl) (by kernel_rfl) (by kernel_rfl) (fun _ _ _ h => h) (Or.inl ⟨by kernel_rfl, fun w _ => by go_simp⟩) trivial ?_
          refine wpAnyH_ready (rs := [8]) (by kernel_rfl) (by simp) (AllReadyH.cons rfl (fun K hK => ?_) AllReadyH.nil)
          go_simp
          refine hK.out _ _ trivial (fun _ => ?_)
          clear hK K hx' hf'
          refine wpAnyH_done (by kernel_rfl) ?_ _
          go_simp
          go_wp2
          go_roundw
          case rel => exact ⟨k + 1, by omega, by go_num, Lib.hid (by rw [HT2.out]; exact KM.out), Lib.hid (KA.out _), Lib.hid (KB.out _)⟩
          case measure => simp [intOf]; omega
      · have HT2 : Hid (lputs L false (zs.take (k + 1)) = M) := Lib.hid (by rw [HT.out, lput, if_neg hin])
        clear HT
        go_wp2_with ((with_reducible refine (isKey_no z (by omega) _).mono ?_); rintro e w' ⟨rfl, rfl⟩)
        go_roundw
        case rel => exact ⟨k + 1, by omega, by go_num, Lib.hid (by rw [HT2.out]; exact hA.out), hR, hb⟩
        case measure => simp [intOf]; omega
    · obtain rfl : k = zs.length := by omega
      rw [List.take_length] at hA
      have hl : Hid ((lputs L false zs).length = 32) := Lib.hid (by rw [lputs_length]; exact HL.out)
      go_wp2_with (first | (with_reducible refine wpl_lload (.tmp 2) rfl rfl hA.out rfl ?_) | (with_reducible refine wpl_lstore (.tmp 4) (.tmp 24) rfl rfl hR.out rfl hl.out rfl ?_; intro w4 R4 g4 e4))
      refine bodyPost_ret (lret1 rfl _ R4 rfl) rfl ?_
      exact ⟨rfl, hb.out.grown g4 hb.out.size (fun k e => by cases e; omega)⟩
end Go.Proofs.Ytppodbijdhcclaa

/- Two arrays of bytes compared whole; and an array of bytes as an argument. No condition. -/
namespace Go.Proofs.Ytppodbijdhcclaa
open Go.RowKit

/-- the model's loop over the places, at a list of places -/
def leqAt (L M : List UInt8) : List Nat → Bool
  | [] => true
  | i :: r => if L.getD i 0 = M.getD i 0 then leqAt L M r else false
theorem leqAt_iff (L M : List UInt8) : ∀ l, leqAt L M l = true ↔ ∀ i, i ∈ l → L.getD i 0 = M.getD i 0
  | [] => by simp [leqAt]
  | i :: r => by
    have ih := leqAt_iff L M r
    simp only [leqAt, List.mem_cons]
    by_cases h : L.getD i 0 = M.getD i 0
    · rw [if_pos h, ih]
      constructor
      · intro k j hj
        rcases hj with rfl | hj
        · exact h
        · exact k j hj
      · intro k j hj
        exact k j (.inr hj)
    · rw [if_neg h]
      constructor
      · intro k; cases k
      · intro k; exact absurd (k i (.inl rfl)) h
theorem leqAt_all {L M : List UInt8} (hL : L.length = 32) (hM : M.length = 32) : leqAt L M (List.range' 0 32) = decide (L = M) := by
  rw [Bool.eq_iff_iff, leqAt_iff, decide_eq_true_iff]
  constructor
  · intro h
    apply List.ext_getElem (by rw [hL, hM])
    intro i h1 h2
    have := h i (by rw [List.mem_range'_1]; omega)
    simpa [List.getD_eq_getElem?_getD, h1, h2] using this
  · intro h i _
    rw [h]
theorem part_at {L : List UInt8} (hL : L.length = 32) {k : Nat} (hk : k < 32) (w : World) : (part 5 (cl L) k).run Try.prog w = .ok (.int .u8 (((L.getD k 0).toNat : Nat) : Int)) w := by
  have h1 : (isAgg 5).run Try.prog w = .ok false w := by kernel_rfl
  have hc := cl_get (l := L) (k := k) (by omega)
  have e : L.getD k 0 = L[k] := by rw [List.getD_eq_getElem?_getD, List.getElem?_eq_getElem (by omega), Option.getD_some]
  simp only [part, Sem.run_bind, h1, Result.andThen_ok, hc, Bool.false_eq_true, if_false, Sem.run_pure, e]
theorem lequalIn_two (d : Nat) {L M : List UInt8} (hL : L.length = 32) (hM : M.length = 32) (w : World) : (Op.equalIn (d + 2) 53 (.agg (cl L)) (.agg (cl M))).run Try.prog w = .ok (decide (L = M)) w := by
  have h2 : (sizeOf 5).run Try.prog w = .ok 1 w := by kernel_rfl
  show (Op.equalIn ((d + 1) + 1) _ _ _).run _ _ = _
  rw [Op.equalIn]
  rw [Sem.run_bind, run_underlying Try.underlying53, Result.andThen_ok]
  dsimp only
  rw [Sem.run_bind, h2, Result.andThen_ok]
  have key : ∀ l : List Nat, (∀ i ∈ l, i < 32) → (forIn (m := Sem) l ((none, ()) : Option Bool × Unit) fun i __s => do
              let __do_lift ← part 5 (cl L) (i * 1)
              let __do_lift_1 ← part 5 (cl M) (i * 1)
              let __do_lift ← Op.equalIn (d + 1) 5 __do_lift __do_lift_1
              if (!__do_lift) = true then pure (ForInStep.done (some false, ())) else pure (ForInStep.yield (none, ()))).run Try.prog w = .ok (if leqAt L M l then (none, ()) else (some false, ())) w := by
    intro l
    induction l with
    | nil => intro _; rfl
    | cons i r ih =>
      intro hi
      have h256 : i < 32 := hi i (List.mem_cons_self)
      have ih' := ih (fun j hj => hi j (List.mem_cons_of_mem _ hj))
      rw [List.forIn_cons]
      simp only [Sem.run_bind, Nat.mul_one, part_at hL h256, part_at hM h256, Result.andThen_ok, run_equalIn_int w d 5 .u8 .u8 _ _ Try.underlying5]
      by_cases e : L.getD i 0 = M.getD i 0
      · have e2 : ((((L.getD i 0).toNat : Nat) : Int) == (((M.getD i 0).toNat : Nat) : Int)) = true := by rw [e]; simp
        simp only [e2, leqAt, if_pos e, Bool.not_true, Bool.false_eq_true, if_false, Sem.run_pure, Result.andThen_ok]
        simpa only [Nat.mul_one] using ih'
      · have e2 : ((((L.getD i 0).toNat : Nat) : Int) == (((M.getD i 0).toNat : Nat) : Int)) = false := by
          rw [beq_eq_false_iff_ne]
          intro k
          exact e (UInt8.toNat_inj.1 (Int.ofNat.inj k))
        simp only [e2, leqAt, if_neg e, Bool.not_false, if_true, Sem.run_pure, Result.andThen_ok, Bool.false_eq_true, if_false]
  have k2 := key (List.range' 0 32) (fun i hi => by rw [List.mem_range'_1] at hi; omega)
  rw [leqAt_all hL hM] at k2
  rw [Sem.run_bind]
  simp only [Std.Legacy.Range.forIn_eq_forIn_range', Std.Legacy.Range.size, Nat.sub_zero, Nat.add_sub_cancel, Nat.div_one]
  rw [k2, Result.andThen_ok]
  by_cases e : L = M
  · rw [decide_eq_true e]
    rfl
  · rw [decide_eq_false e]
    rfl
theorem equalIn_lcl {L M : List UInt8} (hL : L.length = 32) (hM : M.length = 32) (w : World) : (Op.equalIn 10000 53 (.agg (cl L)) (.agg (cl M))).run Try.prog w = .ok (decide (L = M)) w := lequalIn_two 9998 hL hM w

/-- a whole array is loaded in a region that draws its order: it may be taken first -/
theorem yields_lload {ops : Array Oper} {o : Oper} {a : Act} {g : Nat} {L : List UInt8} {S : World → Prop} (x : Operand) (ho : o.op = .load 53 x) (hgd : Region.wanted o (yielded ops a.tmps) = true)
    (hx : a.eval x = .pointer (some ⟨g, 0, none⟩)) (hS : ∀ w, S w → LArr w g L) : YieldsIf Try.prog ops S o (.agg (cl L)) a :=
  .inl ⟨hgd, fun w hw => by
    unfold execOp
    simp only [ho, hx, Instr.loadAt, Instr.sureAddr, Sem.run_bind, Sem.run_pure, Result.andThen_ok, (hS w hw).load]⟩
/-- a whole array is stored, at the operation itself -/
theorem op_lstore {o : Oper} {a : Act} {w : World} {K : Act → World → Prop} {Q : Exit → Act → World → Prop} {g : Nat} {L L' : List UInt8} (x y : Operand) (ho : o.op = .store 53 x y)
    (hA : LArr w g L) (hx : a.eval x = .pointer (some ⟨g, 0, none⟩)) (hL : L'.length = 32) (hy : a.eval y = .agg (cl L'))
    (h : ∀ w', LArr w' g L' → w.grownBy w' (some g) → K (a.put o.dst undef) w') : o.wp Try.prog a w K Q := by
  have hs : (storeVar 53 ⟨g, 0, none⟩ (.agg (cl L'))).run Try.prog w = .ok () (w.setRow g (cl L')) :=
    run_storeVar_row w g _ _ (cl L) (cl L') hA.1 (by rw [cl_size, hL]; exact sizeLive) (by rw [cl_size, cl_size, hA.2, hL]) (cl_one L')
  unfold Oper.wp execOp
  simp only [ho, hx, hy, Instr.storeAt, Instr.sureAddr, Sem.run_bind, Sem.run_pure, Result.andThen_ok, hs]
  exact h _ ⟨setRow_heap w g (cl L) (cl L') _ _ hA.1, hL⟩ ⟨rfl, rfl, rfl, by simp, fun k _ hk => setRow_other w g k (cl L') (by simpa using hk)⟩
/-- the argument: an array of 32 bytes -/
theorem typesLive : Try.prog.cellTypes Try.prog.depth 53 = some (List.replicate 32 5) := by kernel_rfl
theorem cellsLive : Try.prog.cellsOf 53 = 32 := by kernel_rfl
set_option maxRecDepth 100000 in
theorem open_live {w : World} {r : Reach} {b0 : Nat} {v : Value} (h : Value.okWide Try.prog w r b0 53 v) : ∃ L : List UInt8, v = .agg (cl L) ∧ L.length = 32 := by
  simp only [Value.okWide, Try.underlying53] at h
  obtain ⟨cs, rfl, hs, ts, ht, _, hc⟩ := h
  rw [cellsLive] at hs
  rw [typesLive] at ht
  obtain rfl := Option.some.inj ht
  have hcell : ∀ (i : Nat) (v : Value), cs[i]? = some v → ∃ b : UInt8, v = .int .u8 ((b.toNat : Nat) : Int) := by
    intro i v hv
    obtain ⟨u, hu, hk⟩ := hc i v hv
    have hu' : u = 5 := by
      have := List.mem_of_getElem? hu
      exact List.eq_of_mem_replicate this
    subst hu'
    simp only [Cell.okWide, Cell.ok, Try.underlying5] at hk
    cases v with
    | int k n =>
      obtain ⟨rfl, hn⟩ := hk
      simp only [IntKind.has, IntKind.min, IntKind.max, IntKind.signed, IntKind.bits] at hn
      refine ⟨UInt8.ofNat n.toNat, ?_⟩
      congr 1
      simp only [UInt8.toNat_ofNat']
      simp at hn
      omega
    | _ => exact hk.elim
  refine ⟨cs.toList.map fun v => UInt8.ofNat (intOf v).toNat, ?_, by simpa using hs⟩
  congr 1
  apply Array.toList_inj.1
  rw [cl_list]
  unfold bv
  rw [List.map_map]
  refine (List.map_id _).symm.trans (List.map_congr_left fun v hv => ?_)
  obtain ⟨i, hi⟩ := List.getElem?_of_mem hv
  rw [Array.getElem?_toList] at hi
  obtain ⟨b, rfl⟩ := hcell i v hi
  simp [intOf]
end Go.Proofs.Ytppodbijdhcclaa

/- Keys: the keys there are, from the least on. No condition. -/
namespace Go.Proofs.Ytppodbijdhcclaa
open Go.RowKit
theorem kintTy : OneCell Try.prog 78 3 (.int .i64 0) 8 := OneCell.mk' Try.underlying78 (by kernel_rfl) (by decide)
def kv (zs : List Nat) : List Value := zs.map fun z : Nat => Value.int .i64 (z : Int)
theorem kv_length (zs : List Nat) : (kv zs).length = zs.length := List.length_map _
theorem kv_append (a b : List Nat) : kv (a ++ b) = kv a ++ kv b := by simp [kv]
theorem lowRow {w : World} {b b' : Nat} {e : TypeId} {v : Value} {n : Nat} {xs : List Value} (h : w.ownsRow b e 1 v n xs) (hb : b' ≤ b) : w.ownsRow b' e 1 v n xs := by
  obtain ⟨h1, h2⟩ := h
  refine ⟨h1, ?_⟩
  rcases h2 with h2 | ⟨g, cap, cur, hv, hg, r⟩
  · exact .inl h2
  · exact .inr ⟨g, cap, cur, hv, Nat.le_trans hb hg, r⟩
theorem keep_larr {w w' : World} {g : Nat} {L : List UInt8} {v : Value} {e : TypeId} {n : Nat} {xs : List Value} (h : LArr w g L) (hg : w.grownBy w' v.ownBlock) (ho : w.ownsRow (g + 1) e 1 v n xs) : LArr w' g L :=
  ⟨(hg.block g h.lt (fun q => by have := (ho.lt g q.symm).1; omega)).trans h.1, h.2⟩
set_option maxRecDepth 100000 in
set_option maxHeartbeats 8000000 in
theorem keys_any (L : List UInt8) (hL : L.length = 32) (w : World) :
    Calls Try.prog 38 #[.agg (cl L)] w fun e w' => ∃ X c, e = .returned (.slice X (keysTo L 256).length c) ∧ w'.ownsRow w.heap.size 3 1 (.slice X (keysTo L 256).length c) (keysTo L 256).length (kv (keysTo L 256)) ∧ Below w.heap.size w w' := by
  have A0 := Lib.hid (LArr.new w hL)
  have B0 := Lib.hid ((Below.refl w.heap.size w).alloc (Nat.le_refl _) (.cells (cl L) 53))
  have O0 := Lib.hid (World.ownsRow_nil (w.alloc (.cells (cl L) 53)) (w.heap.size + 1) 3 1)
  have HL := Lib.hid hL
  clear hL
  go_enter Try.func38, Try.ntmps38
  go_wp2_with fail
  go_loopw [3, 5] (fun u i wr => ∃ k : Nat, k ≤ 256 ∧ i = .int .i64 k ∧ ∃ X n c, u = .slice X n c ∧ n = (keysTo L k).length ∧ Hid (wr.ownsRow (w.heap.size + 1) 3 1 (.slice X n c) n (kv (keysTo L k))) ∧ Hid (LArr wr w.heap.size L) ∧ Hid (Below w.heap.size w wr)) (fun _ i _ => 256 - (intOf i).toNat)
  case atStart => exact ⟨0, Nat.zero_le _, rfl, _, _, _, rfl, rfl, O0, A0, B0⟩
  case round =>
    clear A0 B0 O0
    rename_i wr
    obtain ⟨k, hk, rfl, X, n, c, rfl, hn, hO, hA, hb⟩ := hrel
    by_cases hlt : k < 256
    · have hd : decide ((k : Int) < 256) = true := by rw [decide_eq_true_iff]; omega
      have HN := Lib.hid hn
      have HS := Lib.hid (keysTo_succ L k)
      have hle : n ≤ 256 := by rw [hn]; exact Nat.le_trans (keysTo_length_le L k) (by omega)
      have c1 := has_any L HL.out (k : Int)
      rw [lhas_nat L hlt] at c1
      clear hn
      go_wp2_with (with_reducible refine wpl_lload (.tmp 1) rfl rfl hA.out rfl ?_)
      ((with_reducible refine (c1 _).mono ?_); rintro e w2 ⟨rfl, hb1⟩)
      have A2 := Lib.hid (hA.out.after hb1)
      have B2 := Lib.hid (hb.out.trans (hb1.mono hb.out.size))
      have O2 := Lib.hid (World.ownsRow.kept hO.out (only_of_below hb1 none) (by cases (Value.slice X n c).ownBlock <;> simp))
      have hs2 : Hid (w.heap.size + 1 ≤ w2.heap.size) := Lib.hid (Nat.le_trans (hA.out.lt) hb1.size)
      clear hb1 hA hb hO
      by_cases hh : hasB L k = true
      · rw [if_pos hh] at HS
        rw [hh]
        have O3 := Lib.hid (O2.out.alloc (.cells #[.int .i64 (k : Int)] 3))
        have A3 := Lib.hid (A2.out.alloc (.cells #[.int .i64 (k : Int)] 3))
        have B3 := Lib.hid (B2.out.alloc B2.out.size (.cells #[.int .i64 (k : Int)] 3))
        have R3 := Lib.hid (Row.new w2 #[.int .i64 (k : Int)] 3 (0, 0) w2.heap.size rfl (Nat.lt_succ_self _))
        have S3 : Hid (w.heap.size + 1 ≤ (w2.alloc (.cells #[.int .i64 (k : Int)] 3)).heap.size) := Lib.hid (by rw [World.size_alloc]; have := hs2.out; omega)
        have M3 : Hid (n + 1 ≤ maxLen) := Lib.hid (by simp only [maxLen]; omega)
        go_wp2_with (at_builtin; refine wpl_append_vals kintTy rfl (.tmp 11) (.tmp 13) rfl n rfl O3.out _ _ _ [.int .i64 (k : Int)] 1 rfl rfl R3.out (by intro u hu; simp at hu; subst hu; rfl) (by omega) M3.out S3.out (n + 1) rfl ?_; intro X2 c2 w4 O4 g4 h4)
        go_roundw
        case rel => exact ⟨k + 1, by omega, by go_num, X2, n + 1, c2, rfl, by rw [HS.out, List.length_append, ← HN.out]; rfl, Lib.hid (by rw [HS.out, kv_append]; exact O4), Lib.hid (keep_larr A3.out g4 O3.out), Lib.hid (B3.out.grown g4 B3.out.size (fun q e => by have := (O3.out.lt q e).1; omega))⟩
        case measure => simp [intOf]; omega
      · have hf : hasB L k = false := by simpa using hh
        rw [if_neg hh, List.append_nil] at HS
        rw [hf]
        go_wp2_with fail
        go_roundw
        case rel => exact ⟨k + 1, by omega, by go_num, X, n, c, rfl, by rw [HS.out]; exact HN.out, Lib.hid (by rw [HS.out]; exact O2.out), A2, B2⟩
        case measure => simp [intOf]; omega
    · obtain rfl : k = 256 := by omega
      subst hn
      go_wp2_with fail
      go_ret
      exact ⟨X, c, rfl, lowRow hO.out (Nat.le_succ _), hb.out⟩
end Go.Proofs.Ytppodbijdhcclaa

