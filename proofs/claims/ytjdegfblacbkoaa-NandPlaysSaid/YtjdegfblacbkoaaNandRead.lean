/- The contract of the reference's Read: the page and the error's number; nothing that was there is changed. No condition but what the chip's block holds. -/
import Derived.Test.YtjdegfblacbkoaaNandMay
import Derived.Test.YtjdegfblacbkoaaNandWrite
import Derived.Deep.MidRow
namespace Go.Proofs.Ytjdegfblacbkoaa
open Go.RowKit
theorem Pgs.range {w : World} {g : Nat} {Ls : List (List UInt8)} (h : Pgs w g Ls) (q : Nat) (hq : q < Ls.length) : w.rangeAt g (q * 258) (bv Ls[q]) := fun j v hj => by
  have hl : Ls[q].length = 258 := h.2 _ (List.getElem_mem hq)
  have hj' : j < 258 := by
    rcases Nat.lt_or_ge j 258 with h' | h'
    · exact h'
    · rw [List.getElem?_eq_none (by rw [bv_length]; omega)] at hj; cases hj
  rw [h.1.cell, bv, List.getElem?_map, NM.flat_get (n := 258) _ h.2 q hq j hj', ← List.getElem?_map]
  exact hj
/-- what Read answers -/
def NM.readPage (Ls : List (List UInt8)) (e : Int) (b k : Int) : List UInt8 := if e = 0 then Ls.getD (8 * b + k).toNat [] else pzeros
set_option maxHeartbeats 1000000 in
theorem refReadE_any (c p g : Nat) (cs : List Value) (Ls : List (List UInt8)) (dead out : Bool) (A : Option Addr) (M : Nat) (hM : M ≤ 40) (hLs : Ls.length = 8 * M) (s : NM.Pwr) (h0 : cs[0]? = some (.pointer (some ⟨p, 0, none⟩))) (h1 : cs[1]? = some (.slice (some ⟨g, 0, none⟩) (8 * M) (8 * M))) (h2 : cs[2]? = some (.slice A M M)) (h4 : cs[4]? = some (.bool dead)) (h5 : cs[5]? = some (.bool out)) (b k : Int) (w : World) (hB : Blk w c 53 cs) (hP : RPow w p s) (hG : Pgs w g Ls) :
    Calls Try.prog 18 #[.pointer (some ⟨c, 0, none⟩), .int .i64 b, .int .i64 k] w fun e w' => e = .returned (.tuple #[.agg (cl (NM.readPage Ls (NM.may s.off (!dead && !out) M b k) b k)), .int .i64 (NM.may s.off (!dead && !out) M b k)]) ∧ Below w.heap.size w w' := by
  have z := zeroPage
  have R0 := Lib.hid (PArr.new w pzeros_length)
  have hB0 := hB.alloc (.cells (cl pzeros) 55)
  have hm := refMay_any c p cs dead out A M s h0 h2 h4 h5 b k _ hB0 (Blk.alloc hP (.cells (cl pzeros) 55))
  have G0 : Hid (Pgs (w.alloc (.cells (cl pzeros) 55)) g Ls) := Lib.hid ⟨hG.1.alloc _, hG.2⟩
  have e1 := (hB0.cell 1).trans h1
  have HB := Lib.hid (((Below.refl w.heap.size w).alloc (Nat.le_refl _) (.cells (cl pzeros) 55)))
  obtain ⟨e, he⟩ : ∃ e, e = NM.may s.off (!dead && !out) M b k := ⟨_, rfl⟩
  rw [← he] at hm ⊢
  have HE := Lib.hid he
  clear he hB hB0 hP hG h0 h1 h2 h4 h5
  by_cases h : e = 0
  · have hr : 0 ≤ b ∧ b < M ∧ 0 ≤ k ∧ k ≤ 7 := by
      have := HE.out
      unfold NM.may at this
      split at this
      · omega
      · split at this
        · split at this <;> omega
        · omega
    obtain ⟨r1, r2, r3, r4⟩ := hr
    subst h
    obtain ⟨q, hq⟩ : ∃ q : Nat, q = (8 * b + k).toNat := ⟨_, rfl⟩
    have hql : q < Ls.length := by omega
    have ww1 : IntKind.i64.wrap (8 * b) = 8 * b := by rw [IntKind.wrap_i64]; omega
    have ww2 : IntKind.i64.wrap (8 * b + k) = 8 * b + k := by rw [IntKind.wrap_i64]; omega
    have i1 : (8 * b + k).toNat = q := hq.symm
    have i2 : 0 ≤ 8 * b + k := by omega
    have i3 : 8 * b + k < ((8 * M : Nat) : Int) := by omega
    have hpg : NM.readPage Ls 0 b k = Ls[q] := by
      unfold NM.readPage
      rw [if_pos rfl, i1, List.getD_eq_getElem?_getD, List.getElem?_eq_getElem hql, Option.getD_some]
    have hL : Ls[q].length = 258 := G0.out.2 _ (List.getElem_mem hql)
    have HR := Lib.hid (G0.out.range q hql)
    have HPG := Lib.hid hpg
    obtain ⟨X, hX⟩ : ∃ X, X = Ls[q] := ⟨_, rfl⟩
    rw [← hX] at HR HPG hL
    obtain ⟨NN, hNN⟩ : ∃ NN : Nat, NN = 8 * M := ⟨_, rfl⟩
    rw [← hNN] at e1 i3
    clear hX hq hpg G0 hql hNN hLs
    go_enter Try.func18, Try.ntmps18
    go_wp2_with fail
    ((with_reducible refine hm.mono ?_); rintro e w' ⟨rfl, rfl⟩)
    go_wp2_with (first | (with_reducible refine wpList_load_mid rfl 55 (.tmp 25) rfl g (q * 258) rfl (bv X) _ HR.out Try.underlying55 rfl (by rw [bv_length, hL]; exact sizePage) ?_) | (with_reducible refine wpl_pstore (.tmp 6) (.tmp 26) rfl rfl R0.out rfl hL rfl ?_; intro w4 R4 g4 e4))
    refine bodyPost_ret (pret2 rfl _ R4 rfl) rfl ?_
    rw [HPG.out]
    exact ⟨rfl, HB.out.grown g4 (by simp) (fun k e => by cases e; exact Nat.le_refl _)⟩
  · have hpg : NM.readPage Ls e b k = pzeros := if_neg h
    have d1 : (e != 0) = true := by simp [h]
    have HPG := Lib.hid hpg
    clear hpg h
    go_enter Try.func18, Try.ntmps18
    go_wp2_with fail
    ((with_reducible refine hm.mono ?_); rintro e w' ⟨rfl, rfl⟩)
    go_wp2_with (with_reducible refine wpl_pstore (.tmp 6) (.tmp 15) rfl rfl R0.out rfl pzeros_length rfl ?_; intro w4 R4 g4 e4)
    refine bodyPost_ret (pret2 rfl _ R4 rfl) rfl ?_
    rw [HPG.out]
    exact ⟨rfl, HB.out.grown g4 (by simp) (fun k e => by cases e; exact Nat.le_refl _)⟩
end Go.Proofs.Ytjdegfblacbkoaa
