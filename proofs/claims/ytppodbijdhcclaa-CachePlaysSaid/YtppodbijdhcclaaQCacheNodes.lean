/- The law's source of nodes. No condition. -/
import Derived.Test.YtppodbijdhcclaaQCacheBehind
import Derived.Test.YtppodbijdhcclaaQLiveSet
import Derived.Test.YtppodbijdhcclaaQLiveEq
import Derived.Test.YtppodbijdhcclaaQYieldsOne
import Derived.RegionTactic
import Derived.Deep.RegionHeld3
namespace Go.Proofs.Ytppodbijdhcclaa
open Go Go.RowKit
/-- the source's block: bodies, which there are, and how many there may be -/
def Src (w : World) (g : Nat) (bs : List ByteArray) (th : List Bool) (mo : Int) : Prop := w.heap[g]? = some (.cells (bs.map Value.string ++ (th.map Value.bool ++ [Value.int .i64 mo])).toArray 32 (0, 0)) ∧ bs.length = 256 ∧ th.length = 256
section
variable {w w' : World} {g B : Nat} {bs : List ByteArray} {th : List Bool} {mo : Int}
theorem Src.blk (h : Src w g bs th mo) : Blk w g 32 (bs.map Value.string ++ (th.map Value.bool ++ [Value.int .i64 mo])) := h.1
theorem Src.lt (h : Src w g bs th mo) : g < w.heap.size := h.blk.lt
theorem Src.below (h : Src w g bs th mo) (hb : Below B w w') (hg : g < B) : Src w' g bs th mo := ⟨h.blk.below hb hg, h.2⟩
theorem Src.after (h : Src w g bs th mo) (hb : Below w.heap.size w w') : Src w' g bs th mo := h.below hb h.lt
theorem Src.grown {row : Option Nat} (h : Src w g bs th mo) (hg : w.grownBy w' row) (hk : some g ≠ row) : Src w' g bs th mo := ⟨h.blk.grown hg hk, h.2⟩
theorem Src.there (h : Src w g bs th mo) {k : Nat} (hk : k < 256) : w.cell? ⟨g, 256 + k, none⟩ = some (.bool (th.getD k false)) := by
  rw [h.blk.cell, List.getElem?_append_right (by rw [List.length_map, h.2.1]; omega), List.length_map, h.2.1, List.getElem?_append_left (by rw [List.length_map, h.2.2]; omega), List.getElem?_map, show 256 + k - 256 = k by omega, List.getD_eq_getElem?_getD, List.getElem?_eq_getElem (by rw [h.2.2]; exact hk)]
  rfl
theorem Src.body (h : Src w g bs th mo) {k : Nat} (hk : k < 256) : w.cell? ⟨g, k, none⟩ = some (.string (bs.getD k ByteArray.empty)) := by
  rw [h.blk.cell, List.getElem?_append_left (by rw [List.length_map, h.2.1]; exact hk), List.getElem?_map, List.getD_eq_getElem?_getD, List.getElem?_eq_getElem (by rw [h.2.1]; exact hk)]
  rfl
theorem Src.limit (h : Src w g bs th mo) : w.cell? ⟨g, 512, none⟩ = some (.int .i64 mo) := by
  rw [h.blk.cell, List.getElem?_append_right (by rw [List.length_map, h.2.1]; omega), List.length_map, h.2.1, List.getElem?_append_right (by rw [List.length_map, h.2.2]; omega), List.length_map, h.2.2]
  rfl
end
theorem op_lload {o : Oper} {a : Act} {w : World} {K : Act → World → Prop} {Q : Exit → Act → World → Prop} {g : Nat} {L : List UInt8} (x : Operand) (ho : o.op = .load 53 x)
    (hA : LArr w g L) (hx : a.eval x = .pointer (some ⟨g, 0, none⟩)) (h : K (a.put o.dst (.agg (cl L))) w) : o.wp Try.prog a w K Q := by
  unfold Oper.wp execOp
  simp only [ho, hx, Instr.loadAt, Instr.sureAddr, Sem.run_bind, Sem.run_pure, Result.andThen_ok, hA.load]
  exact h
theorem step_lload {ops : Array Oper} {o : Oper} {a : Act} {w : World} {K : Act → World → Prop} {Q : Exit → Act → World → Prop} {E : Prop} {g : Nat} {L : List UInt8} (hgd : Region.wanted o (yielded ops a.tmps) = true) (x : Operand) (ho : o.op = .load 53 x)
    (hA : LArr w g L) (hx : a.eval x = .pointer (some ⟨g, 0, none⟩)) (h : K (a.put o.dst (.agg (cl L))) w) : if Region.wanted o (yielded ops a.tmps) = true then Oper.wp Try.prog o a w K Q else E := by
  rw [if_pos hgd]
  exact op_lload x ho hA hx h
theorem step_lstore {ops : Array Oper} {o : Oper} {a : Act} {w : World} {K : Act → World → Prop} {Q : Exit → Act → World → Prop} {E : Prop} {g : Nat} {L L' : List UInt8} (hgd : Region.wanted o (yielded ops a.tmps) = true) (x y : Operand) (ho : o.op = .store 53 x y)
    (hA : LArr w g L) (hx : a.eval x = .pointer (some ⟨g, 0, none⟩)) (hL : L'.length = 32) (hy : a.eval y = .agg (cl L'))
    (h : ∀ w', LArr w' g L' → w.grownBy w' (some g) → K (a.put o.dst undef) w') : if Region.wanted o (yielded ops a.tmps) = true then Oper.wp Try.prog o a w K Q else E := by
  rw [if_pos hgd]
  exact op_lstore x y ho hA hx hL hy h
/-- the set of those below k that there are -/
def srcTo (th : List Bool) : Nat → List UInt8
  | 0 => lzeros
  | k + 1 => lput (srcTo th k) (th.getD k false) (k : Int)
theorem srcTo_length (th : List Bool) : ∀ k, (srcTo th k).length = 32
  | 0 => lzeros_length
  | k + 1 => by
    show (lput (srcTo th k) (th.getD k false) (k : Int)).length = 32
    rw [lput_length, srcTo_length th k]
set_option maxRecDepth 100000 in
set_option maxHeartbeats 8000000 in
theorem limit_any (g : Nat) (bs : List ByteArray) (th : List Bool) (mo : Int) (w : World) (h : Src w g bs th mo) :
    Calls Try.prog 122 #[.pointer (some ⟨g, 0, none⟩)] w fun e w' => e = .returned (.int .i64 mo) ∧ Below w.heap.size w w' := by
  have c1 := h.limit
  go_enter Try.func122, Try.ntmps122
  go_wp2_with fail
  go_ret
  exact ⟨rfl, Below.refl _ _⟩
set_option maxRecDepth 100000 in
set_option maxHeartbeats 8000000 in
theorem nlive_any (g : Nat) (bs : List ByteArray) (th : List Bool) (mo : Int) (w : World) (h : Src w g bs th mo) :
    Calls Try.prog 123 #[.pointer (some ⟨g, 0, none⟩)] w fun e w' => e = .returned (.agg (cl (srcTo th 256))) ∧ Below w.heap.size w w' := by
  have R0 := larr_one w lzeros_length lzeros
  have A0 := larr_two w lzeros lzeros_length
  have B0 := Lib.hid (lhb_two w lzeros lzeros)
  have z0 := zeroLive
  have HS := Lib.hid h
  have LG : Hid (g < w.heap.size) := Lib.hid h.lt
  clear h
  go_enter Try.func123, Try.ntmps123
  go_wp2_with (with_reducible refine wpl_lstore (.tmp 3) (.tmp 5) rfl rfl A0.out rfl lzeros_length rfl ?_; intro w3 A3' g3 e3; have A3 := Lib.hid A3'; have R3 := Lib.hid (R0.out.grown g3 (by omega)); have B3 := Lib.hid (B0.out.grown g3 B0.out.size (fun k e => by cases e; exact Nat.le_succ _)); clear A3' g3 e3 A0 R0 B0)
  go_loopw [4] (fun i wr => ∃ k : Nat, k ≤ 256 ∧ i = .int .i64 k ∧ Hid (LArr wr (w.heap.size + 1) (srcTo th k)) ∧ Hid (LArr wr w.heap.size lzeros) ∧ Hid (Below w.heap.size w wr)) (fun i _ => 256 - (intOf i).toNat)
  case atStart => exact ⟨0, Nat.zero_le _, rfl, A3, R3, B3⟩
  case round =>
    clear A3 R3 B3
    rename_i wr
    obtain ⟨k, hk, rfl, hA, hR, hb⟩ := hrel
    by_cases hlt : k < 256
    · have d1 : decide ((k : Int) < 256) = true := by simp; omega
      have d2 : (k : Int) < 256 := by omega
      have d3 : ¬ 256 ≤ k := by omega
      have d4 : ¬ (256 : Int) ≤ (k : Int) := by omega
      obtain ⟨b, hb1⟩ : ∃ b, b = th.getD k false := ⟨_, rfl⟩
      have c1 : wr.cell? ⟨g, 256 + k, none⟩ = some (.bool b) := by rw [hb1]; exact (HS.out.below hb.out LG.out).there hlt
      have HT : Hid (srcTo th (k + 1) = lput (srcTo th k) b (k : Int)) := Lib.hid (by rw [hb1]; rfl)
      have HL := Lib.hid (srcTo_length th k)
      obtain ⟨M, hM⟩ : ∃ M, M = srcTo th k := ⟨_, rfl⟩
      rw [← hM] at HT hA HL
      have KS : Hid (∀ w', Calls Try.prog 125 #[.agg (cl M), .int .i64 (k : Int), .bool b] w' fun e w2 => e = .returned (.agg (cl (lput M b (k : Int)))) ∧ Below w'.heap.size w' w2) := Lib.hid (fun w' => set_any M HL.out (k : Int) b w')
      have HL2 : Hid ((lput M b (k : Int)).length = 32) := Lib.hid (by rw [lput_length]; exact HL.out)
      clear hM hb1
      go_wp2_with fail
      have Hc : wr.drew.cell? ⟨g, 256 + k, none⟩ = some (.bool b) := c1
      refine wp_region_held_drew (S := (fun w2 => w2.cell? ⟨g, 256 + k, none⟩ = some (.bool b))) (by kernel_rfl) Hc (fun _ => ?_)
      refine wpAnyH_take (i := 1) (v := .int .i64 (k : Int)) rfl (by kernel_rfl) (by kernel_rfl) (by kernel_rfl) (fun _ _ _ h => h) (Or.inl ⟨by kernel_rfl, fun w _ => by go_simp⟩) Hc ?_
      simp only [Act.put, List.getElem_toArray, List.getElem_cons_zero, List.getElem_cons_succ, List.setIfInBounds_toArray, List.set_cons_zero, List.set_cons_succ]
      refine wpAnyH_take (i := 2) (v := .pointer (some ⟨g, 0, none⟩)) rfl (by kernel_rfl) (by kernel_rfl) (by kernel_rfl) (fun _ _ _ h => h) (Or.inl ⟨by kernel_rfl, fun w _ => by go_simp⟩) Hc ?_
      simp only [Act.put, List.getElem_toArray, List.getElem_cons_zero, List.getElem_cons_succ, List.setIfInBounds_toArray, List.set_cons_zero, List.set_cons_succ]
      refine wpAnyH_take (i := 3) (v := .int .i64 (k : Int)) rfl (by kernel_rfl) (by kernel_rfl) (by kernel_rfl) (fun _ _ _ h => h) (Or.inl ⟨by kernel_rfl, fun w _ => by go_simp⟩) Hc ?_
      simp only [Act.put, List.getElem_toArray, List.getElem_cons_zero, List.getElem_cons_succ, List.setIfInBounds_toArray, List.set_cons_zero, List.set_cons_succ]
      refine wpAnyH_take (i := 4) (v := .pointer (some ⟨g, 0, none⟩)) rfl (by kernel_rfl) (by kernel_rfl) (by kernel_rfl) (fun _ _ _ h => h) (Or.inl ⟨by kernel_rfl, fun w _ => by go_simp⟩) Hc ?_
      simp only [Act.put, List.getElem_toArray, List.getElem_cons_zero, List.getElem_cons_succ, List.setIfInBounds_toArray, List.set_cons_zero, List.set_cons_succ]
      refine wpAnyH_take (i := 5) (v := .pointer (some ⟨g, 0, none⟩)) rfl (by kernel_rfl) (by kernel_rfl) (by kernel_rfl) (fun _ _ _ h => h) (Or.inl ⟨by kernel_rfl, fun w _ => by go_simp⟩) Hc ?_
      simp only [Act.put, List.getElem_toArray, List.getElem_cons_zero, List.getElem_cons_succ, List.setIfInBounds_toArray, List.set_cons_zero, List.set_cons_succ]
      refine wpAnyH_take (i := 6) (v := .pointer (some ⟨g, 256, none⟩)) rfl (by kernel_rfl) (by kernel_rfl) (by kernel_rfl) (fun _ _ _ h => h) (Or.inl ⟨by kernel_rfl, fun w _ => by go_simp⟩) Hc ?_
      simp only [Act.put, List.getElem_toArray, List.getElem_cons_zero, List.getElem_cons_succ, List.setIfInBounds_toArray, List.set_cons_zero, List.set_cons_succ]
      refine wpAnyH_take (i := 7) (v := .pointer (some ⟨g, 256 + k, none⟩)) rfl (by kernel_rfl) (by kernel_rfl) (by kernel_rfl) (fun _ _ _ h => h) (Or.inl ⟨by kernel_rfl, fun w _ => by go_simp⟩) Hc ?_
      simp only [Act.put, List.getElem_toArray, List.getElem_cons_zero, List.getElem_cons_succ, List.setIfInBounds_toArray, List.set_cons_zero, List.set_cons_succ]
      refine wpAnyH_take (i := 8) (v := .bool b) rfl (by kernel_rfl) (by kernel_rfl) (by kernel_rfl) (fun _ _ _ h => h) (yields_one (ty := 4) (fun w => by kernel_rfl) (.tmp 17) (by kernel_rfl) (by kernel_rfl) (by kernel_rfl) (fun w2 h => h)) Hc ?_
      simp only [Act.put, List.getElem_toArray, List.getElem_cons_zero, List.getElem_cons_succ, List.setIfInBounds_toArray, List.set_cons_zero, List.set_cons_succ]
      refine wpAnyH_ready (rs := [0]) (by kernel_rfl) (by simp) (AllReadyH.cons rfl (fun K hK => ?_) AllReadyH.nil)
      refine step_lload (by kernel_rfl) (.tmp 3) (by kernel_rfl) hA.out.drew (by kernel_rfl) ?_
      refine hK _ _ Hc (fun _ => ?_)
      clear hK K
      refine wpAnyH_ready (rs := [9]) (by kernel_rfl) (by simp) (AllReadyH.cons rfl (fun K hK => ?_) AllReadyH.nil)
      go_simp
      ((with_reducible refine (KS.out _).mono ?_); rintro e w5 ⟨rfl, b5⟩)
      have Hc5 : w5.cell? ⟨g, 256 + k, none⟩ = some (.bool b) := (b5.cell (p := ⟨g, 256 + k, none⟩) (Nat.lt_of_lt_of_le LG.out hb.out.size)).trans Hc
      have A5 := Lib.hid (hA.out.drew.after b5)
      have R5 := Lib.hid (hR.out.drew.after b5)
      have H5 := Lib.hid (hb.out.drew.trans (b5.mono hb.out.size))
      refine hK _ _ Hc5 (fun _ => ?_)
      clear hK K b5
      refine wpAnyH_ready (rs := [10]) (by kernel_rfl) (by simp) (AllReadyH.cons rfl (fun K hK => ?_) AllReadyH.nil)
      refine step_lstore (by kernel_rfl) (.tmp 3) (.tmp 19) (by kernel_rfl) A5.out (by kernel_rfl) HL2.out (by kernel_rfl) ?_
      intro w6 A6 g6
      have HA6 := Lib.hid A6
      have HR6 := Lib.hid (R5.out.grown g6 (by omega))
      have H6 := Lib.hid (H5.out.grown g6 H5.out.size (fun k e => by cases e; exact Nat.le_succ _))
      have Hc6 : w6.cell? ⟨g, 256 + k, none⟩ = some (.bool b) := g6.cell Hc5 (by simp only [ne_eq, Option.some.injEq]; have := LG.out; omega)
      refine hK _ _ Hc6 (fun _ => ?_)
      clear hK K A6 g6
      refine wpAnyH_done (by kernel_rfl) ?_ _
      go_simp
      go_wp2_with fail
      exact ⟨⟨k + 1, by omega, by go_num, Lib.hid (by rw [HT.out]; exact HA6.out), HR6, H6⟩, by simp [intOf]; omega⟩
    · obtain rfl : k = 256 := by omega
      have HL := Lib.hid (srcTo_length th 256)
      go_wp2_with (first | (with_reducible refine wpl_lload (.tmp 3) rfl rfl hA.out rfl ?_) | (with_reducible refine wpl_lstore (.tmp 2) (.tmp 20) rfl rfl hR.out rfl HL.out rfl ?_; intro w4 R4 g4 e4))
      refine bodyPost_ret (lret1 rfl _ R4 rfl) rfl ?_
      exact ⟨rfl, hb.out.grown g4 hb.out.size (fun k e => by cases e; exact Nat.le_refl _)⟩
end Go.Proofs.Ytppodbijdhcclaa

