/- Changes that may be. No condition. -/
import Derived.Test.YtppodbijdhcclaaQCacheMap
import Derived.Test.YtppodbijdhcclaaQNode
namespace Go.Proofs.Ytppodbijdhcclaa
open Go Go.RowKit
theorem lputs_one (L : List UInt8) (b : Bool) (z : Int) : lputs L b [z] = lput L b z := rfl
theorem with_one (M : List UInt8) (hM : M.length = 32) (z : Int) (w4 : World) : Calls Try.prog 64 #[.agg (cl M), .slice (some ⟨w4.heap.size, 0, none⟩) 1 1] (w4.alloc (.cells #[.int .i64 z] 3)) fun e w' => e = .returned (.agg (cl (lput M true z))) ∧ Below (w4.alloc (.cells #[.int .i64 z] 3)).heap.size (w4.alloc (.cells #[.int .i64 z] 3)) w' := with_any M hM (some ⟨w4.heap.size, 0, none⟩) 1 [z] _ (row_int w4 z) (by simp)
def fitC (c : CV) : Bool := decide (0 ≤ c.k ∧ c.k < 256) && decide (c.n ≤ 224)
def rightC : List UInt8 → List CV → Bool
  | _, [] => true
  | L, c :: cs => if fitC c = true ∧ lhas L c.k = false then rightC (lput L true c.k) cs else false
theorem rightC_next {L : List UInt8} {cs : List CV} {q : Nat} {x : CV} (h : cs[q]? = some x) : rightC L (cs.drop q) = if fitC x = true ∧ lhas L x.k = false then rightC (lput L true x.k) (cs.drop (q + 1)) else false := by
  obtain ⟨hq, e⟩ := List.getElem?_eq_some_iff.1 h
  rw [List.drop_eq_getElem_cons hq, e]
  rfl
/-- the bodies can be read -/
def Bods (w : World) (B : Nat) (cs : List CV) : Prop := ∀ (i : Nat) (x : CV), cs[i]? = some x → ∃ l, Bytes w B (.slice x.A x.n x.c) l
theorem Bods.below {w w' : World} {B : Nat} {cs : List CV} (h : Bods w B cs) (hb : Below B w w') : Bods w' B cs := fun i x hx => by
  obtain ⟨l, hl⟩ := h i x hx
  exact ⟨l, hl.below hb⟩
set_option maxRecDepth 100000 in
set_option maxHeartbeats 8000000 in
theorem right_any (v : Value) (cs : List CV) (w : World) (hr : Chs w w.heap.size v cs) (hb : Bods w w.heap.size cs) (hz : cs.length ≤ 1000) :
    Calls Try.prog 37 #[v] w fun e w' => e = .returned (.bool (rightC lzeros cs)) ∧ Below w.heap.size w w' := by
  obtain ⟨A, c, rfl, hc, hm, _⟩ := id hr
  have A0 := Lib.hid (LArr.new w lzeros_length)
  have B0 := Lib.hid ((Below.refl w.heap.size w).alloc (Nat.le_refl _) (.cells (cl lzeros) 53))
  have z0 := zeroLive
  have HR := Lib.hid hr
  have HB := Lib.hid hb
  obtain ⟨N, hN⟩ : ∃ N, cs.length = N := ⟨_, rfl⟩
  have HN := Lib.hid hN
  rw [hN] at hc hz HR ⊢
  clear hr hN hb
  go_enter Try.func37, Try.ntmps37
  go_wp2_with fail
  go_loopw [10] (fun i wr => ∃ (q : Nat) (M : List UInt8), q ≤ N ∧ i = .int .i64 q ∧ Hid (rightC lzeros cs = rightC M (cs.drop q)) ∧ Hid (LArr wr w.heap.size M) ∧ Hid (Below w.heap.size w wr)) (fun i _ => N - (intOf i).toNat)
  case atStart => exact ⟨0, lzeros, Nat.zero_le _, rfl, Lib.hid rfl, A0, B0⟩
  case round =>
    clear A0 B0
    rename_i wr
    obtain ⟨q, M, hq, rfl, hT, hA, hb⟩ := hrel
    by_cases hlt : q < N
    · obtain ⟨x, hx⟩ : ∃ x, cs[q]? = some x := ⟨_, List.getElem?_eq_getElem (by rw [HN.out]; exact hlt)⟩
      obtain ⟨a, rfl, hab, hck⟩ := (HR.out.below hb.out).elem hx
      have HT := hT.out.trans (rightC_next hx)
      obtain ⟨l, hl⟩ := (HB.out.below hb.out) q x hx
      have HBY := Lib.hid (hl.more hb.out.size)
      have HLL : Hid (l.length = x.n) := Lib.hid (by obtain ⟨_, _, e, _⟩ := hl; simp only [Value.slice.injEq] at e; exact e.2.1.symm)
      have ML : Hid (M.length = 32) := Lib.hid hA.out.2
      obtain ⟨xk, xg, xA, xn, xc⟩ := x
      have HCK := Lib.hid (show ∀ j u, ([.int .i64 xk, .bool xg, .slice xA xn xc] : List Value)[j]? = some u → wr.cell? ((a.add (q * 3)).add j) = some u from hck)
      have HTy : Hid (fitC ⟨xk, xg, xA, xn, xc⟩ = true ∧ lhas M xk = false → rightC lzeros cs = rightC (lput M true xk) (cs.drop (q + 1))) := Lib.hid (fun h => HT.trans (if_pos h))
      have HTn : Hid (¬ (fitC ⟨xk, xg, xA, xn, xc⟩ = true ∧ lhas M xk = false) → rightC lzeros cs = false) := Lib.hid (fun h => HT.trans (if_neg h))
      simp only at HLL HBY
      clear hck hx hl hT HT
      have H2 := Lib.hid ((Below.refl wr.heap.size wr).alloc (Nat.le_refl _) (.cells #[.int .i64 xk, .bool xg, .slice xA xn xc] 46))
      have X2 := Lib.hid (Blk.new3c wr (.int .i64 xk) (.bool xg) (.slice xA xn xc) 46)
      have A2 := Lib.hid (hA.out.after H2.out)
      have T2 := Lib.hid (hb.out.trans (H2.out.mono hb.out.size))
      have BY2 := Lib.hid ((HBY.out.below H2.out).more H2.out.size)
      go_upto_region 5 with (with_reducible refine wpl_cells (q := a.add (q * 3)) (row := [.int .i64 xk, .bool xg, .slice xA xn xc]) aggC sizeC (.tmp 12) rfl rfl rfl rfl HCK.out ?_)
      obtain ⟨W2, hW2⟩ : ∃ W2, W2 = wr.alloc (.cells #[.int .i64 xk, .bool xg, .slice xA xn xc] 46) := ⟨_, rfl⟩
      rw [← hW2] at X2 A2 T2 BY2 ⊢
      obtain ⟨p, hp⟩ : ∃ p, p = wr.heap.size := ⟨_, rfl⟩
      rw [← hp] at X2 ⊢
      have x0 := X2.out.cell 0
      have x2 := X2.out.cell 2
      clear hW2 hp H2 HBY hA hb HCK
      by_cases hfit : (0 ≤ xk ∧ xk < 256) ∧ xn ≤ 224
      · obtain ⟨k, rfl⟩ : ∃ k : Nat, xk = (k : Int) := ⟨xk.toNat, by omega⟩
        have KW := Lib.hid (nwrite_yes k 0 _ l W2 (by omega) BY2.out (by rw [HLL.out]; exact hfit.2))
        rw [show ((0 : Nat) : Int) = 0 from rfl] at KW
        have hf : Hid (fitC ⟨(k : Int), xg, xA, xn, xc⟩ = true) := Lib.hid (by unfold fitC; simp; omega)
        go_upto_region 6 with ((with_reducible refine KW.out.mono ?_); rintro e w3 ⟨g3, c3, rfl, _, b3⟩; have A3 := Lib.hid (A2.out.after b3); have T3 := Lib.hid (T2.out.trans (b3.mono T2.out.size)); have y0 : w3.cell? ⟨p, 0, none⟩ = some (.int .i64 (k : Int)) := (X2.out.after b3).cell 0; clear KW b3)
        have KH := Lib.hid (has_any M ML.out (k : Int) w3)
        obtain ⟨b, hb⟩ : ∃ b, b = lhas M (k : Int) := ⟨_, rfl⟩
        rw [← hb] at KH
        have HB2 := Lib.hid hb
        clear hb x0 x2 A2 T2 X2 BY2
        cases b with
        | true =>
          have hfin : Hid (rightC lzeros cs = false) := Lib.hid (HTn.out (fun h => by rw [← HB2.out] at h; exact absurd h.2 (by simp)))
          go_wp2_with (first | (with_reducible refine wpl_lload (.tmp 3) rfl rfl A3.out rfl ?_) | ((with_reducible refine KH.out.mono ?_); rintro e w4 ⟨rfl, b4⟩; have T4 := Lib.hid (T3.out.trans (b4.mono T3.out.size)); clear KH b4))
          go_ret
          exact ⟨by rw [hfin.out]; rfl, T4.out⟩
        | false =>
          have hnx : Hid (rightC lzeros cs = rightC (lput M true (k : Int)) (cs.drop (q + 1))) := Lib.hid (HTy.out ⟨hf.out, HB2.out.symm⟩)
          have HL2 : Hid ((lput M true (k : Int)).length = 32) := Lib.hid (by rw [lput_length]; exact ML.out)
          clear HTy HTn
          have KK := Lib.hid (fun w4 => with_one M ML.out (k : Int) w4)
          go_wp2_with (first
            | (with_reducible refine wpl_lload (.tmp 3) rfl rfl A3.out rfl ?_)
            | ((with_reducible refine KH.out.mono ?_); rintro e w4 ⟨rfl, b4⟩; have A4 := Lib.hid (A3.out.after b4); have T4 := Lib.hid (T3.out.trans (b4.mono T3.out.size)); have y4 : w4.cell? ⟨p, 0, none⟩ = some (.int .i64 (k : Int)) := (b4.cell (p := ⟨p, 0, none⟩) (World.block_lt_of_cell? _ _ y0)).trans y0; have KK4 := Lib.hid (KK.out w4); clear KH b4 A3)
            | (with_reducible refine wpl_lload (.tmp 3) rfl rfl A4.out rfl ?_)
            | ((with_reducible refine KK4.out.mono ?_); rintro e w5 ⟨rfl, b5⟩; have A5 := Lib.hid ((A4.out.alloc (.cells #[.int .i64 (k : Int)] 3)).after b5); have H5 := Lib.hid ((T4.out.alloc T4.out.size (.cells #[.int .i64 (k : Int)] 3)).trans (b5.mono (Nat.le_trans T4.out.size (by simp)))); clear KK4 b5)
            | ((with_reducible refine wpl_lstore (.tmp 3) (.tmp 35) rfl rfl A5.out rfl HL2.out rfl ?_); intro w6 A6 g6 e6; have HA6 := Lib.hid A6; have H6 := Lib.hid (H5.out.grown g6 H5.out.size (fun k e => by cases e; exact Nat.le_refl _)); clear A6 g6 e6))
          exact ⟨⟨q + 1, _, by omega, by go_num, hnx, HA6, H6⟩, by simp [intOf]; omega⟩
      · have hfin : Hid (rightC lzeros cs = false) := Lib.hid (HTn.out (by
          rintro ⟨h, _⟩
          unfold fitC at h
          simp at h
          exact hfit ⟨h.1, h.2⟩))
        have KW := Lib.hid (nwrite_no xk 0 _ l W2 BY2.out (by rw [HLL.out]; omega))
        rw [show ((0 : Nat) : Int) = 0 from rfl] at KW
        go_wp2_with ((with_reducible refine KW.out.mono ?_); rintro e w3 ⟨rfl, b3⟩; have T3 := Lib.hid (T2.out.trans (b3.mono T2.out.size)); clear KW b3)
        go_ret
        exact ⟨by rw [hfin.out]; rfl, T3.out⟩
    · obtain rfl : q = N := by omega
      rw [List.drop_of_length_le (by rw [HN.out]; exact Nat.le_refl _)] at hT
      go_wp2_with fail
      go_ret
      exact ⟨by rw [hT.out]; rfl, hb.out⟩
end Go.Proofs.Ytppodbijdhcclaa

