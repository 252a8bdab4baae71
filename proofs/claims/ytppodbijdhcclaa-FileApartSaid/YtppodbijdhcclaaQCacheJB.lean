/- Several texts of the proof, joined: what each has is said at its head. -/
import Derived.Test.YtppodbijdhcclaaQCacheJA
import Derived.Test.YtppodbijdhcclaaQLiveJ
import Derived.Test.YtppodbijdhcclaaQYieldsOne
import Derived.RegionTactic
import Derived.Deep.RegionHeld3
import Derived.Maps.OwnOps
import Derived.Maps.OwnSet
import Derived.Maps.RangeWalk
import Derived.Maps.Views
/- The law's source of nodes. No condition. -/
namespace Go.Proofs.Ytppodbijdhcclaa
open Go Go.RowKit
/-- the source's block: bodies, which there are, and how many there may be -/
def Src (w : World) (g : Nat) (bs : List ByteArray) (th : List Bool) (mo : Int) : Prop := w.heap[g]? = some (.cells (bs.map Value.string ++ (th.map Value.bool ++ [Value.int .i64 mo])).toArray 32 (0, 0)) ∧ bs.length = 256 ∧ th.length = 256
section
variable {w w' : World} {g B : Nat} {bs : List ByteArray} {th : List Bool} {mo : Int}
theorem Src.blk (h : Src w g bs th mo) : Blk w g 32 (bs.map Value.string ++ (th.map Value.bool ++ [Value.int .i64 mo])) := h.1
theorem Src.lt (h : Src w g bs th mo) : g < w.heap.size := h.blk.lt
theorem Src.below (h : Src w g bs th mo) (hb : Below B w w') (hg : g < B) : Src w' g bs th mo := ⟨h.blk.below hb hg, h.2⟩
theorem Src.after (h : Src w g bs th mo) (hb : Below w.heap.size w w') : Src w' g bs th mo := h.below hb h.lt
theorem Src.grown {row : Option Nat} (h : Src w g bs th mo) (hg : w.grownBy w' row) (hk : some g ≠ row) : Src w' g bs th mo := ⟨h.blk.grown hg hk, h.2⟩
theorem Src.there (h : Src w g bs th mo) {k : Nat} (hk : k < 256) : w.cell? ⟨g, 256 + k, none⟩ = some (.bool (th.getD k false)) := by
  rw [h.blk.cell, List.getElem?_append_right (by rw [List.length_map, h.2.1]; omega), List.length_map, h.2.1, List.getElem?_append_left (by rw [List.length_map, h.2.2]; omega), List.getElem?_map, show 256 + k - 256 = k by omega, List.getD_eq_getElem?_getD, List.getElem?_eq_getElem (by rw [h.2.2]; exact hk)]
  rfl
theorem Src.body (h : Src w g bs th mo) {k : Nat} (hk : k < 256) : w.cell? ⟨g, k, none⟩ = some (.string (bs.getD k ByteArray.empty)) := by
  rw [h.blk.cell, List.getElem?_append_left (by rw [List.length_map, h.2.1]; exact hk), List.getElem?_map, List.getD_eq_getElem?_getD, List.getElem?_eq_getElem (by rw [h.2.1]; exact hk)]
  rfl
theorem Src.limit (h : Src w g bs th mo) : w.cell? ⟨g, 512, none⟩ = some (.int .i64 mo) := by
  rw [h.blk.cell, List.getElem?_append_right (by rw [List.length_map, h.2.1]; omega), List.length_map, h.2.1, List.getElem?_append_right (by rw [List.length_map, h.2.2]; omega), List.length_map, h.2.2]
  rfl
end
theorem op_lload {o : Oper} {a : Act} {w : World} {K : Act → World → Prop} {Q : Exit → Act → World → Prop} {g : Nat} {L : List UInt8} (x : Operand) (ho : o.op = .load 53 x)
    (hA : LArr w g L) (hx : a.eval x = .pointer (some ⟨g, 0, none⟩)) (h : K (a.put o.dst (.agg (cl L))) w) : o.wp Try.prog a w K Q := by
  unfold Oper.wp execOp
  simp only [ho, hx, Instr.loadAt, Instr.sureAddr, Sem.run_bind, Sem.run_pure, Result.andThen_ok, hA.load]
  exact h
theorem step_lload {ops : Array Oper} {o : Oper} {a : Act} {w : World} {K : Act → World → Prop} {Q : Exit → Act → World → Prop} {E : Prop} {g : Nat} {L : List UInt8} (hgd : Region.wanted o (yielded ops a.tmps) = true) (x : Operand) (ho : o.op = .load 53 x)
    (hA : LArr w g L) (hx : a.eval x = .pointer (some ⟨g, 0, none⟩)) (h : K (a.put o.dst (.agg (cl L))) w) : if Region.wanted o (yielded ops a.tmps) = true then Oper.wp Try.prog o a w K Q else E := by
  rw [if_pos hgd]
  exact op_lload x ho hA hx h
theorem step_lstore {ops : Array Oper} {o : Oper} {a : Act} {w : World} {K : Act → World → Prop} {Q : Exit → Act → World → Prop} {E : Prop} {g : Nat} {L L' : List UInt8} (hgd : Region.wanted o (yielded ops a.tmps) = true) (x y : Operand) (ho : o.op = .store 53 x y)
    (hA : LArr w g L) (hx : a.eval x = .pointer (some ⟨g, 0, none⟩)) (hL : L'.length = 32) (hy : a.eval y = .agg (cl L'))
    (h : ∀ w', LArr w' g L' → w.grownBy w' (some g) → K (a.put o.dst undef) w') : if Region.wanted o (yielded ops a.tmps) = true then Oper.wp Try.prog o a w K Q else E := by
  rw [if_pos hgd]
  exact op_lstore x y ho hA hx hL hy h
/-- the set of those below k that there are -/
def srcTo (th : List Bool) : Nat → List UInt8
  | 0 => lzeros
  | k + 1 => lput (srcTo th k) (th.getD k false) (k : Int)
theorem srcTo_length (th : List Bool) : ∀ k, (srcTo th k).length = 32
  | 0 => lzeros_length
  | k + 1 => by
    show (lput (srcTo th k) (th.getD k false) (k : Int)).length = 32
    rw [lput_length, srcTo_length th k]
set_option maxRecDepth 100000 in
set_option maxHeartbeats 8000000 in
theorem limit_any (g : Nat) (bs : List ByteArray) (th : List Bool) (mo : Int) (w : World) (h : Src w g bs th mo) :
    Calls Try.prog 122 #[.pointer (some ⟨g, 0, none⟩)] w fun e w' => e = .returned (.int .i64 mo) ∧ Below w.heap.size w w' := by
  have c1 := h.limit
  go_enter Try.func122, Try.ntmps122
  go_wp2_with fail
  go_ret
  exact ⟨rfl, Below.refl _ _⟩
set_option maxRecDepth 100000 in
set_option maxHeartbeats 8000000 in
theorem nlive_any (g : Nat) (bs : List ByteArray) (th : List Bool) (mo : Int) (w : World) (h : Src w g bs th mo) :
    Calls Try.prog 123 #[.pointer (some ⟨g, 0, none⟩)] w fun e w' => e = .returned (.agg (cl (srcTo th 256))) ∧ Below w.heap.size w w' := by
  have R0 := larr_one w lzeros_length lzeros
  have A0 := larr_two w lzeros lzeros_length
  have B0 := Lib.hid (lhb_two w lzeros lzeros)
  have z0 := zeroLive
  have HS := Lib.hid h
  have LG : Hid (g < w.heap.size) := Lib.hid h.lt
  clear h
  go_enter Try.func123, Try.ntmps123
  go_wp2_with (with_reducible refine wpl_lstore (.tmp 3) (.tmp 5) rfl rfl A0.out rfl lzeros_length rfl ?_; intro w3 A3' g3 e3; have A3 := Lib.hid A3'; have R3 := Lib.hid (R0.out.grown g3 (by omega)); have B3 := Lib.hid (B0.out.grown g3 B0.out.size (fun k e => by cases e; exact Nat.le_succ _)); clear A3' g3 e3 A0 R0 B0)
  go_loopw [4] (fun i wr => ∃ k : Nat, k ≤ 256 ∧ i = .int .i64 k ∧ Hid (LArr wr (w.heap.size + 1) (srcTo th k)) ∧ Hid (LArr wr w.heap.size lzeros) ∧ Hid (Below w.heap.size w wr)) (fun i _ => 256 - (intOf i).toNat)
  case atStart => exact ⟨0, Nat.zero_le _, rfl, A3, R3, B3⟩
  case round =>
    clear A3 R3 B3
    rename_i wr
    obtain ⟨k, hk, rfl, hA, hR, hb⟩ := hrel
    by_cases hlt : k < 256
    · have d1 : decide ((k : Int) < 256) = true := by simp; omega
      have d2 : (k : Int) < 256 := by omega
      have d3 : ¬ 256 ≤ k := by omega
      have d4 : ¬ (256 : Int) ≤ (k : Int) := by omega
      obtain ⟨b, hb1⟩ : ∃ b, b = th.getD k false := ⟨_, rfl⟩
      have c1 : wr.cell? ⟨g, 256 + k, none⟩ = some (.bool b) := by rw [hb1]; exact (HS.out.below hb.out LG.out).there hlt
      have HT : Hid (srcTo th (k + 1) = lput (srcTo th k) b (k : Int)) := Lib.hid (by rw [hb1]; rfl)
      have HL := Lib.hid (srcTo_length th k)
      obtain ⟨M, hM⟩ : ∃ M, M = srcTo th k := ⟨_, rfl⟩
      rw [← hM] at HT hA HL
      have KS : Hid (∀ w', Calls Try.prog 125 #[.agg (cl M), .int .i64 (k : Int), .bool b] w' fun e w2 => e = .returned (.agg (cl (lput M b (k : Int)))) ∧ Below w'.heap.size w' w2) := Lib.hid (fun w' => set_any M HL.out (k : Int) b w')
      have HL2 : Hid ((lput M b (k : Int)).length = 32) := Lib.hid (by rw [lput_length]; exact HL.out)
      clear hM hb1
      go_wp2_with fail
      have Hc : wr.drew.cell? ⟨g, 256 + k, none⟩ = some (.bool b) := c1
      refine wp_region_held_drew (S := (fun w2 => w2.cell? ⟨g, 256 + k, none⟩ = some (.bool b))) (by kernel_rfl) Hc (fun _ => ?_)
      refine wpAnyH_take (i := 1) (v := .int .i64 (k : Int)) rfl (by kernel_rfl) (by kernel_rfl) (by kernel_rfl) (fun _ _ _ h => h) (Or.inl ⟨by kernel_rfl, fun w _ => by go_simp⟩) Hc ?_
      simp only [Act.put, List.getElem_toArray, List.getElem_cons_zero, List.getElem_cons_succ, List.setIfInBounds_toArray, List.set_cons_zero, List.set_cons_succ]
      refine wpAnyH_take (i := 2) (v := .pointer (some ⟨g, 0, none⟩)) rfl (by kernel_rfl) (by kernel_rfl) (by kernel_rfl) (fun _ _ _ h => h) (Or.inl ⟨by kernel_rfl, fun w _ => by go_simp⟩) Hc ?_
      simp only [Act.put, List.getElem_toArray, List.getElem_cons_zero, List.getElem_cons_succ, List.setIfInBounds_toArray, List.set_cons_zero, List.set_cons_succ]
      refine wpAnyH_take (i := 3) (v := .int .i64 (k : Int)) rfl (by kernel_rfl) (by kernel_rfl) (by kernel_rfl) (fun _ _ _ h => h) (Or.inl ⟨by kernel_rfl, fun w _ => by go_simp⟩) Hc ?_
      simp only [Act.put, List.getElem_toArray, List.getElem_cons_zero, List.getElem_cons_succ, List.setIfInBounds_toArray, List.set_cons_zero, List.set_cons_succ]
      refine wpAnyH_take (i := 4) (v := .pointer (some ⟨g, 0, none⟩)) rfl (by kernel_rfl) (by kernel_rfl) (by kernel_rfl) (fun _ _ _ h => h) (Or.inl ⟨by kernel_rfl, fun w _ => by go_simp⟩) Hc ?_
      simp only [Act.put, List.getElem_toArray, List.getElem_cons_zero, List.getElem_cons_succ, List.setIfInBounds_toArray, List.set_cons_zero, List.set_cons_succ]
      refine wpAnyH_take (i := 5) (v := .pointer (some ⟨g, 0, none⟩)) rfl (by kernel_rfl) (by kernel_rfl) (by kernel_rfl) (fun _ _ _ h => h) (Or.inl ⟨by kernel_rfl, fun w _ => by go_simp⟩) Hc ?_
      simp only [Act.put, List.getElem_toArray, List.getElem_cons_zero, List.getElem_cons_succ, List.setIfInBounds_toArray, List.set_cons_zero, List.set_cons_succ]
      refine wpAnyH_take (i := 6) (v := .pointer (some ⟨g, 256, none⟩)) rfl (by kernel_rfl) (by kernel_rfl) (by kernel_rfl) (fun _ _ _ h => h) (Or.inl ⟨by kernel_rfl, fun w _ => by go_simp⟩) Hc ?_
      simp only [Act.put, List.getElem_toArray, List.getElem_cons_zero, List.getElem_cons_succ, List.setIfInBounds_toArray, List.set_cons_zero, List.set_cons_succ]
      refine wpAnyH_take (i := 7) (v := .pointer (some ⟨g, 256 + k, none⟩)) rfl (by kernel_rfl) (by kernel_rfl) (by kernel_rfl) (fun _ _ _ h => h) (Or.inl ⟨by kernel_rfl, fun w _ => by go_simp⟩) Hc ?_
      simp only [Act.put, List.getElem_toArray, List.getElem_cons_zero, List.getElem_cons_succ, List.setIfInBounds_toArray, List.set_cons_zero, List.set_cons_succ]
      refine wpAnyH_take (i := 8) (v := .bool b) rfl (by kernel_rfl) (by kernel_rfl) (by kernel_rfl) (fun _ _ _ h => h) (yields_one (ty := 4) (fun w => by kernel_rfl) (.tmp 17) (by kernel_rfl) (by kernel_rfl) (by kernel_rfl) (fun w2 h => h)) Hc ?_
      simp only [Act.put, List.getElem_toArray, List.getElem_cons_zero, List.getElem_cons_succ, List.setIfInBounds_toArray, List.set_cons_zero, List.set_cons_succ]
      refine wpAnyH_ready (rs := [0]) (by kernel_rfl) (by simp) (AllReadyH.cons rfl (fun K hK => ?_) AllReadyH.nil)
      refine step_lload (by kernel_rfl) (.tmp 3) (by kernel_rfl) hA.out.drew (by kernel_rfl) ?_
      refine hK _ _ Hc (fun _ => ?_)
      clear hK K
      refine wpAnyH_ready (rs := [9]) (by kernel_rfl) (by simp) (AllReadyH.cons rfl (fun K hK => ?_) AllReadyH.nil)
      go_simp
      ((with_reducible refine (KS.out _).mono ?_); rintro e w5 ⟨rfl, b5⟩)
      have Hc5 : w5.cell? ⟨g, 256 + k, none⟩ = some (.bool b) := (b5.cell (p := ⟨g, 256 + k, none⟩) (Nat.lt_of_lt_of_le LG.out hb.out.size)).trans Hc
      have A5 := Lib.hid (hA.out.drew.after b5)
      have R5 := Lib.hid (hR.out.drew.after b5)
      have H5 := Lib.hid (hb.out.drew.trans (b5.mono hb.out.size))
      refine hK _ _ Hc5 (fun _ => ?_)
      clear hK K b5
      refine wpAnyH_ready (rs := [10]) (by kernel_rfl) (by simp) (AllReadyH.cons rfl (fun K hK => ?_) AllReadyH.nil)
      refine step_lstore (by kernel_rfl) (.tmp 3) (.tmp 19) (by kernel_rfl) A5.out (by kernel_rfl) HL2.out (by kernel_rfl) ?_
      intro w6 A6 g6
      have HA6 := Lib.hid A6
      have HR6 := Lib.hid (R5.out.grown g6 (by omega))
      have H6 := Lib.hid (H5.out.grown g6 H5.out.size (fun k e => by cases e; exact Nat.le_succ _))
      have Hc6 : w6.cell? ⟨g, 256 + k, none⟩ = some (.bool b) := g6.cell Hc5 (by simp only [ne_eq, Option.some.injEq]; have := LG.out; omega)
      refine hK _ _ Hc6 (fun _ => ?_)
      clear hK K A6 g6
      refine wpAnyH_done (by kernel_rfl) ?_ _
      go_simp
      go_wp2_with fail
      exact ⟨⟨k + 1, by omega, by go_num, Lib.hid (by rw [HT.out]; exact HA6.out), HR6, H6⟩, by simp [intOf]; omega⟩
    · obtain rfl : k = 256 := by omega
      have HL := Lib.hid (srcTo_length th 256)
      go_wp2_with (first | (with_reducible refine wpl_lload (.tmp 3) rfl rfl hA.out rfl ?_) | (with_reducible refine wpl_lstore (.tmp 2) (.tmp 20) rfl rfl hR.out rfl HL.out rfl ?_; intro w4 R4 g4 e4))
      refine bodyPost_ret (lret1 rfl _ R4 rfl) rfl ?_
      exact ⟨rfl, hb.out.grown g4 hb.out.size (fun k e => by cases e; exact Nat.le_refl _)⟩
end Go.Proofs.Ytppodbijdhcclaa

/- The cache's memory: its block and its map. No condition. -/
namespace Go.Proofs.Ytppodbijdhcclaa
open Go Go.RowKit Go.Maps
def cval (x : CV) : Value := .agg #[.int .i64 x.k, .bool x.g, .slice x.A x.n x.c]
def chR : Value → Option (DataW Value × List MemPlace)
  | .agg cs => match cs.toList with
    | [.int .i64 _, .bool _, .slice _ _ _] => some (.held (.agg cs), [])
    | _ => none
  | _ => none
theorem chR_mk (x : CV) : chR (cval x) = some (.held (cval x), []) := rfl
theorem chR_inv (v : Value) (y : DataW Value × List MemPlace) (h : chR v = some y) : ∃ x : CV, v = cval x := by
  unfold chR at h
  split at h
  · rename_i cs
    split at h
    · rename_i k g A n c e
      refine ⟨⟨k, g, A, n, c⟩, ?_⟩
      unfold cval
      congr 1
      rw [← Array.toArray_toList (xs := cs), e]
    · cases h
  · cases h
theorem cval_inj {x y : CV} (h : cval x = cval y) : x = y := by
  obtain ⟨a, b, c, d, e⟩ := x
  obtain ⟨a', b', c', d', e'⟩ := y
  unfold cval at h
  simp only [Value.agg.injEq, Array.mk.injEq, List.cons.injEq, Value.int.injEq, Value.bool.injEq, Value.slice.injEq, and_true, true_and] at h
  simp_all
theorem cKey : Keyed Try.prog 3 := int_keyed Try.underlying3
theorem keyC {z : Int} (h : (Lit.int .i64 z).wf = true) : keyOf Try.prog 3 (.int .i64 z) = some (.int .i64 z) := keyOf_int_mk Try.underlying3 h
/-- the map tells the changes f -/
def MpD (D : DataW Value) (f : Int → Option CV) : Prop := ∀ z : Int, Maps.has D (.int .i64 z) = (f z).isSome ∧ ∀ x, f z = some x → (x.k = z ∧ 0 ≤ z ∧ z < 256) ∧ ∀ y, D.atKey (.int .i64 z) y = .held (cval x)
theorem MpD.start : MpD (.map []) (fun _ => none) := fun z => ⟨rfl, fun x h => by cases h⟩
theorem MpD.put {D : DataW Value} {f : Int → Option CV} (h : MpD D f) (hm : IsMap D) (x : CV) (h0 : 0 ≤ x.k ∧ x.k < 256) : MpD (D.put (.int .i64 x.k) (.held (cval x))) (fun z => if z = x.k then some x else f z) := fun z => by
  show has _ _ = (if z = x.k then some x else f z).isSome ∧ ∀ u, (if z = x.k then some x else f z) = some u → _
  by_cases e : z = x.k
  · rw [if_pos e]
    subst e
    exact ⟨has_put_same hm (by unfold WideAt.IsKeyLit; trivial) _, fun y hy => by cases hy; exact ⟨⟨rfl, h0⟩, fun _ => atKey_put_same hm (by unfold WideAt.IsKeyLit; trivial) _ _⟩⟩
  · rw [if_neg e]
    have hne : (Lit.int .i64 z) ≠ .int .i64 x.k := fun h => e (Lit.int.inj h).2
    exact ⟨by rw [has_put_other hne]; exact (h z).1, fun y hy => ⟨((h z).2 y hy).1, fun u => by rw [atKey_put_other hne]; exact ((h z).2 y hy).2 u⟩⟩
/-- the cache's block q: its source s, its map m -/
def Cc (w : World) (q m s : Nat) : Prop := Blk w q 89 [.iface 26 (.pointer (some ⟨s, 0, none⟩)), .map (some m)]
theorem chs_one {w : World} {g : Nat} {x : CV} (h : Blk w g 46 [.int .i64 x.k, .bool x.g, .slice x.A x.n x.c]) : Chs w w.heap.size (.slice (some ⟨g, 0, none⟩) 1 1) [x] :=
  ⟨some ⟨g, 0, none⟩, 1, rfl, Nat.le_refl _, by simp [maxLen], fun j u hu => by
    refine ⟨⟨g, 0, none⟩, rfl, h.lt, ?_⟩
    rw [show (⟨g, 0, none⟩ : Addr).add j = ⟨g, j, none⟩ by simp [Addr.add_lit], h.cell]
    exact hu⟩
theorem meth_live (n : Nat) (a : Addr) (w : World) : (method (n + 1) 26 (.pointer (some a)) "Live").run Try.prog w = .ok (123, .pointer (some a)) w := by kernel_rfl
theorem meth_limit (n : Nat) (a : Addr) (w : World) : (method (n + 1) 26 (.pointer (some a)) "Limit").run Try.prog w = .ok (122, .pointer (some a)) w := by kernel_rfl
set_option maxRecDepth 100000 in
set_option maxHeartbeats 8000000 in
theorem clive_any (q m s N : Nat) (f : Int → Option CV) (D : DataW Value) (bs : List ByteArray) (th : List Bool) (mo : Int) (w : World) (hq : Cc w q m s) (hs : Src w s bs th mo) (hm : w.ownsMap Try.prog 3 chR m N D) (hf : MpD D f) :
    Calls Try.prog 23 #[.pointer (some ⟨q, 0, none⟩)] w fun e w' => ∃ M, M.length = 32 ∧ e = .returned (.agg (cl M)) ∧ (∀ z, lhas M z = match f z with | some x => !x.g | none => lhas (srcTo th 256) z) ∧ Below w.heap.size w w' := by
  have R0 := Lib.hid (LArr.new w lzeros_length)
  have z0 := zeroLive
  have B0 := Lib.hid ((Below.refl w.heap.size w).alloc (Nat.le_refl _) (.cells (cl lzeros) 53))
  have Q0 := Lib.hid (Blk.alloc hq (.cells (cl lzeros) 53))
  have S0 := Lib.hid (hs.after B0.out)
  have M0 := Lib.hid (hm.alloc (.cells (cl lzeros) 53))
  have QL : Hid (q < w.heap.size ∧ s < w.heap.size ∧ m < w.heap.size) := Lib.hid ⟨Blk.lt hq, hs.lt, hm.lt⟩
  have HF := Lib.hid hf
  have KL := Lib.hid (nlive_any s bs th mo _ S0.out)
  obtain ⟨L0, hL0⟩ : ∃ L0, L0 = srcTo th 256 := ⟨_, rfl⟩
  have HL0 : Hid (L0.length = 32) := Lib.hid (by rw [hL0]; exact srcTo_length th 256)
  rw [← hL0] at KL ⊢
  have q0 : (w.alloc (.cells (cl lzeros) 53)).cell? ⟨q, 0, none⟩ = some (.iface 26 (.pointer (some ⟨s, 0, none⟩))) := Blk.cell Q0.out 0
  have ml := meth_live
  clear hq hs hm hf hL0
  go_enter Try.func23, Try.ntmps23
  go_upto_region 2 with (first
    | ((with_reducible refine KL.out.mono ?_); rintro e w1 ⟨rfl, b1⟩; have HB1 := Lib.hid (B0.out.trans (b1.mono B0.out.size)); have R1 := Lib.hid ((R0.out.after b1).alloc (.cells (cl lzeros) 53)); have Q1 := Lib.hid ((Blk.after Q0.out b1).alloc (.cells (cl lzeros) 53)); have M1 := Lib.hid ((M0.out.kept (only_of_below b1 none) (by simp)).alloc (.cells (cl lzeros) 53)); have A1 := Lib.hid (LArr.new w1 lzeros_length); have G1 : Hid (w.heap.size < w1.heap.size ∧ q < w1.heap.size ∧ m < w1.heap.size) := Lib.hid (by have h1 := R0.out.lt; have h2 := b1.size; have := QL.out; omega); clear KL b1 R0 B0 Q0 S0 M0 ml q0)
    | (with_reducible refine wpl_lstore (.tmp 3) (.tmp 10) rfl rfl A1.out rfl HL0.out rfl ?_; intro w3 A3' g3 e3; have A3 := Lib.hid A3'; have R3 := Lib.hid (R1.out.grown g3 (by have := G1.out; omega)); have Q3 := Lib.hid (Q1.out.grown g3 (by simp only [ne_eq, Option.some.injEq]; have := G1.out; omega)); have M3 := Lib.hid (M1.out.kept g3 (by simp only [ne_eq, Option.some.injEq]; have := G1.out; omega)); have H3 := Lib.hid ((HB1.out.alloc HB1.out.size (.cells (cl lzeros) 53)).grown g3 (Nat.le_trans HB1.out.size (by simp)) (fun k e => by cases e; exact HB1.out.size)); have S3 : Hid (w1.heap.size < w3.heap.size) := Lib.hid (by rw [e3, World.size_alloc]; exact Nat.lt_succ_self _); clear A3' g3 e3 A1 R1 Q1 M1 HB1))
  obtain ⟨gv, hgv⟩ : ∃ gv, gv = w1.heap.size := ⟨_, rfl⟩
  rw [← hgv] at A3 G1 S3 ⊢
  have q1 : w3.cell? ⟨q, 1, none⟩ = some (.map (some m)) := Q3.out.cell 1
  clear hgv
  go_wp2_with (at_range; refine wpList_range_own _ rfl _ 87 rfl 3 46 cKey Try.underlying87 chR m N D rfl M3.out ?_; intro w4 hrg4 hg4 hs4)
  go_frame
  have A4 := Lib.hid (LArr.grown (k := w3.heap.size + 5) A3.out (World.grownBy.but hg4 _) (by have := S3.out; omega))
  have R4 := Lib.hid (LArr.grown (k := w3.heap.size + 5) R3.out (World.grownBy.but hg4 _) (by have := S3.out; have := G1.out; omega))
  have H4 := Lib.hid (H3.out.grown hg4 H3.out.size (fun k e => by cases e))
  have HRG := Lib.hid hrg4
  obtain ⟨r, hr⟩ : ∃ r, r = w3.heap.size := ⟨_, rfl⟩
  rw [← hr] at HRG S3 ⊢
  have HWR : Hid (w.heap.size ≤ r) := Lib.hid (by rw [hr]; exact H3.out.size)
  clear hr hg4 hs4 hrg4 A3 R3 Q3 M3 H3 q1
  go_loopw [] (fun wr => ∃ left cnt M, Hid (wr.ranges Try.prog 3 chR m r N D left cnt) ∧ Hid (LArr wr gv M) ∧ Hid (LArr wr w.heap.size lzeros) ∧ Hid (∀ z : Int, lhas M z = if left (.int .i64 z) = true then lhas L0 z else match f z with | some x => !x.g | none => lhas L0 z) ∧ Hid (Below w.heap.size w wr)) (fun wr => wr.rangeLeft m r)
  case atStart => exact ⟨_, _, L0, HRG, A4, R4, Lib.hid (fun z => by
    rw [(HF.out z).1]
    cases f z <;> rfl), H4⟩
  case round =>
    clear HRG A4 R4 H4
    rename_i wr
    obtain ⟨left, cnt, M, hrg, hA, hR, hM, hb⟩ := hrel
    go_wp2_with (at_next; refine wpList_next_ranges _ rfl (.tmp 15) rfl 3 cKey chR (Value.int .i64) (fun x : CV => .agg #[.int .i64 x.k, .bool x.g, .slice x.A x.n x.c]) (fun key kl hkey => by obtain ⟨x, rfl, _⟩ := Maps.keyOf_int_inv Try.underlying3 hkey; exact ⟨x, rfl⟩) (fun v y hv => chR_inv v y hv) m r N D left cnt rfl hrg.out ?_ ?_)
    · intro hc0 hl0
      have HM : Hid (∀ z : Int, lhas M z = match f z with | some x => !x.g | none => lhas L0 z) := Lib.hid (fun z => by rw [hM.out z, hl0, if_neg (by simp)])
      have ML : Hid (M.length = 32) := Lib.hid hA.out.2
      clear hc0 hl0 hM hrg
      go_wp2_with (first | (with_reducible refine wpl_lload (.tmp 3) rfl rfl hA.out rfl ?_) | (with_reducible refine wpl_lstore (.tmp 2) (.tmp 24) rfl rfl hR.out rfl ML.out rfl ?_; intro w4 R4 g4 e4))
      refine bodyPost_ret (lret1 rfl _ R4 rfl) rfl ?_
      exact ⟨M, ML.out, rfl, HM.out, hb.out.grown g4 hb.out.size (fun k e => by cases e; exact Nat.le_refl _)⟩
    · intro k c kl y ps w8 cnt' hkey hlk hv hat hrg8 hcnt hgr8 hsz8 hen8
      obtain ⟨k', e1, rfl, _⟩ := Maps.keyOf_int_inv Try.underlying3 hkey
      cases e1
      have hy : y = .held (cval c) := by
        have h1 := chR_mk c
        unfold cval at h1
        rw [h1] at hv
        cases hv
        rfl
      have hfk : f k = some c := by
        have h1 := (HF.out k).1
        rw [Maps.has_true_of_atKey hat] at h1
        obtain ⟨x, hx⟩ := Option.isSome_iff_exists.1 h1.symm
        have h2 := ((HF.out k).2 x hx).2 (.held (cval x))
        rw [hat, hy] at h2
        rw [hx, cval_inj (DataW.held.inj h2)]
      have hck := ((HF.out k).2 c hfk).1
      have ML : Hid (M.length = 32) := Lib.hid hA.out.2
      have HM2 : Hid (∀ z : Int, lhas (lput M (!c.g) c.k) z = if (left (.int .i64 z) && !(Lit.int .i64 z).sameKey (.int .i64 k)) = true then lhas L0 z else match f z with | some x => !x.g | none => lhas L0 z) := Lib.hid (fun z => by
        rw [lhas_lput ML.out, hck.1]
        by_cases e : z = k
        · subst e
          rw [if_pos ⟨rfl, hck.2⟩, WideAt.sameKey_self (by unfold WideAt.IsKeyLit; trivial), hfk]
          simp
        · rw [if_neg (fun h => e h.1), sameKey_ne (fun h => e (Lit.int.inj h).2), hM.out z]
          simp)
      have hA8 := hA.out.grown hgr8 (by have := S3.out; omega)
      have hR8 := hR.out.grown hgr8 (by have := S3.out; have := G1.out; omega)
      have hb8 := hb.out.grown hgr8 hb.out.size (fun k e => by cases e; exact HWR.out)
      have X9 := Lib.hid (Blk.new3c w8 (.int .i64 c.k) (.bool c.g) (.slice c.A c.n c.c) 46)
      have Y0 := Blk.new3c (w8.alloc (.cells #[.int .i64 c.k, .bool c.g, .slice c.A c.n c.c] 46)) (.int .i64 c.k) (.bool c.g) (.slice c.A c.n c.c) 46
      have A10 := Lib.hid ((hA8.alloc (.cells #[.int .i64 c.k, .bool c.g, .slice c.A c.n c.c] 46)).alloc (.cells #[.int .i64 c.k, .bool c.g, .slice c.A c.n c.c] 46))
      have R10 := Lib.hid ((hR8.alloc (.cells #[.int .i64 c.k, .bool c.g, .slice c.A c.n c.c] 46)).alloc (.cells #[.int .i64 c.k, .bool c.g, .slice c.A c.n c.c] 46))
      have T10 := Lib.hid ((hrg8.alloc (.cells #[.int .i64 c.k, .bool c.g, .slice c.A c.n c.c] 46)).alloc (.cells #[.int .i64 c.k, .bool c.g, .slice c.A c.n c.c] 46))
      have H10 := Lib.hid ((hb8.alloc hb8.size (.cells #[.int .i64 c.k, .bool c.g, .slice c.A c.n c.c] 46)).alloc (Nat.le_trans hb8.size (by simp)) (.cells #[.int .i64 c.k, .bool c.g, .slice c.A c.n c.c] 46))
      have A9 := Lib.hid (hA8.alloc (.cells #[.int .i64 c.k, .bool c.g, .slice c.A c.n c.c] 46))
      have KB : Hid (Calls Try.prog 39 #[.agg (cl M), .slice (some ⟨(w8.alloc (.cells #[.int .i64 c.k, .bool c.g, .slice c.A c.n c.c] 46)).heap.size, 0, none⟩) 1 1] ((w8.alloc (.cells #[.int .i64 c.k, .bool c.g, .slice c.A c.n c.c] 46)).alloc (.cells #[.int .i64 c.k, .bool c.g, .slice c.A c.n c.c] 46)) fun e w' => e = .returned (.agg (cl (lput M (!c.g) c.k))) ∧ Below _ _ w') := Lib.hid (behind_any M ML.out _ [c] _ (chs_one Y0) (by simp))
      rw [World.size_alloc] at KB
      have HL2 : Hid ((lput M (!c.g) c.k).length = 32) := Lib.hid (by rw [lput_length]; exact ML.out)
      have LE : Hid (cnt' < cnt ∧ wr.rangeLeft m r = cnt) := Lib.hid ⟨hcnt, hrg.out.left_eq⟩
      have RM : Hid (r ≠ m) := Lib.hid hrg.out.ne
      clear hkey hlk hv hat hy hfk hck hcnt hgr8 hsz8 hrg hA hR hM hb hA8 hR8 hb8 hrg8 Y0
      go_wp2_with (first
        | (with_reducible refine wpl_lload (.tmp 3) rfl rfl A9.out rfl ?_)
        | (with_reducible refine wpl_seg_load aggC sizeC (.tmp 5) rfl rfl X9.out 0 [.int .i64 c.k, .bool c.g, .slice c.A c.n c.c] rfl rfl rfl ?_)
        | ((with_reducible refine KB.out.mono ?_); rintro e w11 ⟨rfl, b11⟩; have A11 := Lib.hid (A10.out.after b11); have R11 := Lib.hid (R10.out.after b11); have T11 := Lib.hid (T10.out.kept (only_of_below b11 none) (by simp) (by simp)); have H11 := Lib.hid (H10.out.trans (b11.mono H10.out.size)); clear KB b11 A10 R10 T10 H10)
        | ((with_reducible refine wpl_lstore (.tmp 3) (.tmp 23) rfl rfl A11.out rfl HL2.out rfl ?_); intro w12 A12' g12 e12; have A12 := Lib.hid A12'; have R12 := Lib.hid (R11.out.grown g12 (by have := G1.out; omega)); have T12 := Lib.hid (T11.out.kept g12 (by simp only [ne_eq, Option.some.injEq]; have := G1.out; omega) (by simp only [ne_eq, Option.some.injEq]; have := S3.out; omega)); have H12 := Lib.hid (H11.out.grown g12 H11.out.size (fun k e => by cases e; have := G1.out; omega)); clear A12' g12 e12))
      exact ⟨⟨_, _, _, _, _, _, _, _, _, ⟨_, _, _, T12, A12, R12, HM2, H12⟩, rfl⟩, by rw [T12.out.left_eq, LE.out.2]; exact LE.out.1⟩
end Go.Proofs.Ytppodbijdhcclaa

/- Changes that may be. No condition. -/
namespace Go.Proofs.Ytppodbijdhcclaa
open Go Go.RowKit
theorem lputs_one (L : List UInt8) (b : Bool) (z : Int) : lputs L b [z] = lput L b z := rfl
theorem with_one (M : List UInt8) (hM : M.length = 32) (z : Int) (w4 : World) : Calls Try.prog 64 #[.agg (cl M), .slice (some ⟨w4.heap.size, 0, none⟩) 1 1] (w4.alloc (.cells #[.int .i64 z] 3)) fun e w' => e = .returned (.agg (cl (lput M true z))) ∧ Below (w4.alloc (.cells #[.int .i64 z] 3)).heap.size (w4.alloc (.cells #[.int .i64 z] 3)) w' := with_any M hM (some ⟨w4.heap.size, 0, none⟩) 1 [z] _ (row_int w4 z) (by simp)
def fitC (c : CV) : Bool := decide (0 ≤ c.k ∧ c.k < 256) && decide (c.n ≤ 224)
def rightC : List UInt8 → List CV → Bool
  | _, [] => true
  | L, c :: cs => if fitC c = true ∧ lhas L c.k = false then rightC (lput L true c.k) cs else false
theorem rightC_next {L : List UInt8} {cs : List CV} {q : Nat} {x : CV} (h : cs[q]? = some x) : rightC L (cs.drop q) = if fitC x = true ∧ lhas L x.k = false then rightC (lput L true x.k) (cs.drop (q + 1)) else false := by
  obtain ⟨hq, e⟩ := List.getElem?_eq_some_iff.1 h
  rw [List.drop_eq_getElem_cons hq, e]
  rfl
/-- the bodies can be read -/
def Bods (w : World) (B : Nat) (cs : List CV) : Prop := ∀ (i : Nat) (x : CV), cs[i]? = some x → ∃ l, Bytes w B (.slice x.A x.n x.c) l
theorem Bods.below {w w' : World} {B : Nat} {cs : List CV} (h : Bods w B cs) (hb : Below B w w') : Bods w' B cs := fun i x hx => by
  obtain ⟨l, hl⟩ := h i x hx
  exact ⟨l, hl.below hb⟩
set_option maxRecDepth 100000 in
set_option maxHeartbeats 8000000 in
theorem cright_any (v : Value) (cs : List CV) (w : World) (hr : Chs w w.heap.size v cs) (hb : Bods w w.heap.size cs) (hz : cs.length ≤ 1000) :
    Calls Try.prog 37 #[v] w fun e w' => e = .returned (.bool (rightC lzeros cs)) ∧ Below w.heap.size w w' := by
  obtain ⟨A, c, rfl, hc, hm, _⟩ := id hr
  have A0 := Lib.hid (LArr.new w lzeros_length)
  have B0 := Lib.hid ((Below.refl w.heap.size w).alloc (Nat.le_refl _) (.cells (cl lzeros) 53))
  have z0 := zeroLive
  have HR := Lib.hid hr
  have HB := Lib.hid hb
  obtain ⟨N, hN⟩ : ∃ N, cs.length = N := ⟨_, rfl⟩
  have HN := Lib.hid hN
  rw [hN] at hc hz HR ⊢
  clear hr hN hb
  go_enter Try.func37, Try.ntmps37
  go_wp2_with fail
  go_loopw [10] (fun i wr => ∃ (q : Nat) (M : List UInt8), q ≤ N ∧ i = .int .i64 q ∧ Hid (rightC lzeros cs = rightC M (cs.drop q)) ∧ Hid (LArr wr w.heap.size M) ∧ Hid (Below w.heap.size w wr)) (fun i _ => N - (intOf i).toNat)
  case atStart => exact ⟨0, lzeros, Nat.zero_le _, rfl, Lib.hid rfl, A0, B0⟩
  case round =>
    clear A0 B0
    rename_i wr
    obtain ⟨q, M, hq, rfl, hT, hA, hb⟩ := hrel
    by_cases hlt : q < N
    · obtain ⟨x, hx⟩ : ∃ x, cs[q]? = some x := ⟨_, List.getElem?_eq_getElem (by rw [HN.out]; exact hlt)⟩
      obtain ⟨a, rfl, hab, hck⟩ := (HR.out.below hb.out).elem hx
      have HT := hT.out.trans (rightC_next hx)
      obtain ⟨l, hl⟩ := (HB.out.below hb.out) q x hx
      have HBY := Lib.hid (hl.more hb.out.size)
      have HLL : Hid (l.length = x.n) := Lib.hid (by obtain ⟨_, _, e, _⟩ := hl; simp only [Value.slice.injEq] at e; exact e.2.1.symm)
      have ML : Hid (M.length = 32) := Lib.hid hA.out.2
      obtain ⟨xk, xg, xA, xn, xc⟩ := x
      have HCK := Lib.hid (show ∀ j u, ([.int .i64 xk, .bool xg, .slice xA xn xc] : List Value)[j]? = some u → wr.cell? ((a.add (q * 3)).add j) = some u from hck)
      have HTy : Hid (fitC ⟨xk, xg, xA, xn, xc⟩ = true ∧ lhas M xk = false → rightC lzeros cs = rightC (lput M true xk) (cs.drop (q + 1))) := Lib.hid (fun h => HT.trans (if_pos h))
      have HTn : Hid (¬ (fitC ⟨xk, xg, xA, xn, xc⟩ = true ∧ lhas M xk = false) → rightC lzeros cs = false) := Lib.hid (fun h => HT.trans (if_neg h))
      simp only at HLL HBY
      clear hck hx hl hT HT
      have H2 := Lib.hid ((Below.refl wr.heap.size wr).alloc (Nat.le_refl _) (.cells #[.int .i64 xk, .bool xg, .slice xA xn xc] 46))
      have X2 := Lib.hid (Blk.new3c wr (.int .i64 xk) (.bool xg) (.slice xA xn xc) 46)
      have A2 := Lib.hid (hA.out.after H2.out)
      have T2 := Lib.hid (hb.out.trans (H2.out.mono hb.out.size))
      have BY2 := Lib.hid ((HBY.out.below H2.out).more H2.out.size)
      go_upto_region 5 with (with_reducible refine wpl_cells (q := a.add (q * 3)) (row := [.int .i64 xk, .bool xg, .slice xA xn xc]) aggC sizeC (.tmp 12) rfl rfl rfl rfl HCK.out ?_)
      obtain ⟨W2, hW2⟩ : ∃ W2, W2 = wr.alloc (.cells #[.int .i64 xk, .bool xg, .slice xA xn xc] 46) := ⟨_, rfl⟩
      rw [← hW2] at X2 A2 T2 BY2 ⊢
      obtain ⟨p, hp⟩ : ∃ p, p = wr.heap.size := ⟨_, rfl⟩
      rw [← hp] at X2 ⊢
      have x0 := X2.out.cell 0
      have x2 := X2.out.cell 2
      clear hW2 hp H2 HBY hA hb HCK
      by_cases hfit : (0 ≤ xk ∧ xk < 256) ∧ xn ≤ 224
      · obtain ⟨k, rfl⟩ : ∃ k : Nat, xk = (k : Int) := ⟨xk.toNat, by omega⟩
        have KW := Lib.hid (nwrite_yes k 0 _ l W2 (by omega) BY2.out (by rw [HLL.out]; exact hfit.2))
        rw [show ((0 : Nat) : Int) = 0 from rfl] at KW
        have hf : Hid (fitC ⟨(k : Int), xg, xA, xn, xc⟩ = true) := Lib.hid (by unfold fitC; simp; omega)
        go_upto_region 6 with ((with_reducible refine KW.out.mono ?_); rintro e w3 ⟨g3, c3, rfl, _, b3⟩; have A3 := Lib.hid (A2.out.after b3); have T3 := Lib.hid (T2.out.trans (b3.mono T2.out.size)); have y0 : w3.cell? ⟨p, 0, none⟩ = some (.int .i64 (k : Int)) := (X2.out.after b3).cell 0; clear KW b3)
        have KH := Lib.hid (has_any M ML.out (k : Int) w3)
        obtain ⟨b, hb⟩ : ∃ b, b = lhas M (k : Int) := ⟨_, rfl⟩
        rw [← hb] at KH
        have HB2 := Lib.hid hb
        clear hb x0 x2 A2 T2 X2 BY2
        cases b with
        | true =>
          have hfin : Hid (rightC lzeros cs = false) := Lib.hid (HTn.out (fun h => by rw [← HB2.out] at h; exact absurd h.2 (by simp)))
          go_wp2_with (first | (with_reducible refine wpl_lload (.tmp 3) rfl rfl A3.out rfl ?_) | ((with_reducible refine KH.out.mono ?_); rintro e w4 ⟨rfl, b4⟩; have T4 := Lib.hid (T3.out.trans (b4.mono T3.out.size)); clear KH b4))
          go_ret
          exact ⟨by rw [hfin.out]; rfl, T4.out⟩
        | false =>
          have hnx : Hid (rightC lzeros cs = rightC (lput M true (k : Int)) (cs.drop (q + 1))) := Lib.hid (HTy.out ⟨hf.out, HB2.out.symm⟩)
          have HL2 : Hid ((lput M true (k : Int)).length = 32) := Lib.hid (by rw [lput_length]; exact ML.out)
          clear HTy HTn
          have KK := Lib.hid (fun w4 => with_one M ML.out (k : Int) w4)
          go_wp2_with (first
            | (with_reducible refine wpl_lload (.tmp 3) rfl rfl A3.out rfl ?_)
            | ((with_reducible refine KH.out.mono ?_); rintro e w4 ⟨rfl, b4⟩; have A4 := Lib.hid (A3.out.after b4); have T4 := Lib.hid (T3.out.trans (b4.mono T3.out.size)); have y4 : w4.cell? ⟨p, 0, none⟩ = some (.int .i64 (k : Int)) := (b4.cell (p := ⟨p, 0, none⟩) (World.block_lt_of_cell? _ _ y0)).trans y0; have KK4 := Lib.hid (KK.out w4); clear KH b4 A3)
            | (with_reducible refine wpl_lload (.tmp 3) rfl rfl A4.out rfl ?_)
            | ((with_reducible refine KK4.out.mono ?_); rintro e w5 ⟨rfl, b5⟩; have A5 := Lib.hid ((A4.out.alloc (.cells #[.int .i64 (k : Int)] 3)).after b5); have H5 := Lib.hid ((T4.out.alloc T4.out.size (.cells #[.int .i64 (k : Int)] 3)).trans (b5.mono (Nat.le_trans T4.out.size (by simp)))); clear KK4 b5)
            | ((with_reducible refine wpl_lstore (.tmp 3) (.tmp 35) rfl rfl A5.out rfl HL2.out rfl ?_); intro w6 A6 g6 e6; have HA6 := Lib.hid A6; have H6 := Lib.hid (H5.out.grown g6 H5.out.size (fun k e => by cases e; exact Nat.le_refl _)); clear A6 g6 e6))
          exact ⟨⟨q + 1, _, by omega, by go_num, hnx, HA6, H6⟩, by simp [intOf]; omega⟩
      · have hfin : Hid (rightC lzeros cs = false) := Lib.hid (HTn.out (by
          rintro ⟨h, _⟩
          unfold fitC at h
          simp at h
          exact hfit ⟨h.1, h.2⟩))
        have KW := Lib.hid (nwrite_no xk 0 _ l W2 BY2.out (by rw [HLL.out]; omega))
        rw [show ((0 : Nat) : Int) = 0 from rfl] at KW
        go_wp2_with ((with_reducible refine KW.out.mono ?_); rintro e w3 ⟨rfl, b3⟩; have T3 := Lib.hid (T2.out.trans (b3.mono T2.out.size)); clear KW b3)
        go_ret
        exact ⟨by rw [hfin.out]; rfl, T3.out⟩
    · obtain rfl : q = N := by omega
      rw [List.drop_of_length_le (by rw [HN.out]; exact Nat.le_refl _)] at hT
      go_wp2_with fail
      go_ret
      exact ⟨by rw [hT.out]; rfl, hb.out⟩
end Go.Proofs.Ytppodbijdhcclaa

