/- What CacheRoom needs. No condition. -/
import Derived.Test.YtkpojlnfagonbaaQCacheSpeaks
import Derived.Test.YtkpojlnfagonbaaQNandAnd
namespace Go.Proofs.Ytkpojlnfagonbaa
open Go Go.RowKit Go.Maps
theorem Src.setThere {w : World} {g : Nat} {bs : List ByteArray} {th : List Bool} {mo : Int} (h : Src w g bs th mo) {k : Nat} (hk : k < 256) (b : Bool) : Src (w.setCell ⟨g, 256 + k, none⟩ (.bool b)) g bs (th.set k b) mo := by
  refine ⟨?_, h.2.1, by rw [List.length_set]; exact h.2.2⟩
  have h1 := h.blk.set (256 + k) (.bool b)
  rw [List.set_append_right _ _ (by rw [List.length_map, h.2.1]; omega), List.length_map, h.2.1, List.set_append_left _ _ (by rw [List.length_map, h.2.2]; omega), show 256 + k - 256 = k by omega, ← List.map_set] at h1
  exact h1
def thTo : Nat → List Bool
  | 0 => fa
  | k + 1 => (thTo k).set k true
theorem cnt_twelve : cntL (srcTo (thTo 12) 256) = 12 := by kernel_rfl
theorem cnt_more : ((List.range 16).all fun k => decide (cntL (lput (srcTo (thTo 12) 256) true (k : Int)) = if k < 12 then 12 else 13)) = true := by kernel_rfl
theorem cnt_mono {M L : List UInt8} (h : ∀ k, k < 256 → hasB M k = true → hasB L k = true) : cntL M ≤ cntL L := by
  unfold cntL keysTo
  rw [← List.countP_eq_length_filter, ← List.countP_eq_length_filter]
  exact List.countP_mono_left (fun k hk => h k (by simpa using hk))
theorem cnt_gone {M : List UInt8} (hM : M.length = 32) (k : Int) : cntL (lput M (!true) k) ≤ cntL M := cnt_mono (fun j hj h => by
  rw [← lhas_nat _ hj, lhas_lput hM] at h
  split at h
  · cases h
  · rw [lhas_nat _ hj] at h; exact h)
theorem behL_one (M : List UInt8) (x : CV) : behL M [x] = lput M (!x.g) x.k := rfl
def MapOk (w : World) (m : Nat) (f : Int → Option CV) : Prop := ∃ N D S P, N ≤ 10 ∧ w.ownsMap Try.prog 3 chR m N D ∧ MpD D f ∧ Tells w S f P ∧ ∀ b, S b → b ≠ m
theorem right_body (k : Int) (A : Option Addr) (n c : Nat) (hk : 0 ≤ k ∧ k < 256) (hn : n ≤ 224) : rightC lzeros [⟨k, false, A, n, c⟩] = true := by
  unfold rightC
  rw [if_pos ⟨by unfold fitC; simp; omega, lhas_lzeros k⟩]
  rfl
/-- one change with a body, where twelve nodes are -/
theorem put_room (q m s : Nat) (mo : Int) (k : Nat) (A : Option Addr) (n c : Nat) (l : List UInt8) (w : World)
    (hq : Cc w q m s) (hs : Src w s em (thTo 12) mo) (hm : w.ownsMap Try.prog 3 chR m 0 (.map [])) (hk : k < 16) (hl : Bytes w w.heap.size (.slice A n c) l) (hn : n ≤ 224) :
    Calls Try.prog 27 #[.pointer (some ⟨q, 0, none⟩), .slice (some ⟨w.heap.size, 0, none⟩) 1 1] (w.alloc (.cells #[.int .i64 (k : Int), .bool false, .slice A n c] 67)) fun e w' =>
      ∃ r f, e = .returned (.int .i64 r) ∧ (r = 0 ∨ r = 40) ∧ (k < 12 → r = 0) ∧ (12 ≤ k → (r = 0 ↔ 13 ≤ mo)) ∧ (w.alloc (.cells #[.int .i64 (k : Int), .bool false, .slice A n c] 67)).grownBy w' (some m) ∧ MapOk w' m f := by
  have hb := (Below.refl w.heap.size w).alloc (Nat.le_refl _) (.cells #[.int .i64 (k : Int), .bool false, .slice A n c] 67)
  have hlt := hm.lt
  have hK : cntL (lput (srcTo (thTo 12) 256) true (k : Int)) = if k < 12 then 12 else 13 := by
    have h := List.all_eq_true.1 cnt_more k (by simpa using hk)
    simpa using h
  have hcnt : ∀ M, M.length = 32 → (∀ z, lhas M z = liveF (fun _ => none) (srcTo (thTo 12) 256) z) → cntL (lput M true (k : Int)) = (if k < 12 then 12 else 13) ∧ cntL M = 12 := fun M hM hz => by
    refine ⟨?_, ?_⟩
    · rw [← hK]
      refine cntL_lhas (fun z => ?_)
      rw [lhas_lput hM, lhas_lput (srcTo_length _ _), hz z]
      rfl
    · rw [← cnt_twelve]
      exact cntL_lhas hz
  refine (put_any q m s 0 (fun _ => none) (.map []) (fun _ => False) (fun _ => none) em (thTo 12) mo (.slice (some ⟨w.heap.size, 0, none⟩) 1 1) [⟨(k : Int), false, A, n, c⟩] [l] _ (Blk.alloc hq _) (hs.after hb) (hm.alloc _) MpD.start (fun z => ⟨rfl, fun x e h => by cases h⟩) (fun b h => h.elim) (one_rows w ⟨(k : Int), false, A, n, c⟩) ⟨rfl, fun i x hx => by
    cases i with
    | zero => cases hx; exact (hl.below hb).more hb.size
    | succ i => cases hx⟩ (by simp) (by omega)).mono ?_
  rintro e w' (⟨h, _⟩ | ⟨_, M, h1, h2, (⟨h3, h4, h5⟩ | ⟨h3, h4, h5, f2, D2, h6, h7, h8⟩)⟩)
  · rw [right_body (k : Int) A n c (by omega) hn] at h
    cases h
  · have h9 := hcnt M h1 h2
    rw [behL_one] at h3
    simp only [Bool.not_false] at h3
    have h10 := h3
    rw [h9.1, h9.2] at h10
    refine ⟨40, fun _ => none, h4, .inr rfl, fun h => ?_, fun h => ?_, only_of_below h5 _, 0, .map [], fun _ => False, fun _ => none, by omega, (hm.alloc _).kept (only_of_below h5 none) (by simp), MpD.start, fun z => ⟨rfl, fun x e h => by cases h⟩, fun b h => h.elim⟩
    · rw [if_pos h] at h10; omega
    · rw [if_neg (by omega)] at h10
      constructor
      · intro h; cases h
      · intro h; have := h10.1; omega
  · have h9 := hcnt M h1 h2
    rw [behL_one] at h3
    simp only [Bool.not_false] at h3
    have h10 := h3
    rw [h9.1, h9.2] at h10
    refine ⟨0, f2, h4, .inl rfl, fun _ => rfl, fun h => ?_, h5, _, D2, _, _, by simp, h6, h7, h8, fun b h => ?_⟩
    · rw [if_neg (by omega)] at h10
      constructor
      · intro _; omega
      · intro _; rfl
    · rw [World.size_alloc] at h
      rcases h with h | h
      · exact h.elim
      · omega
end Go.Proofs.Ytkpojlnfagonbaa

