/- A change of one's own. No condition. -/
import Derived.Test.YtppodbijdhcclaaQCacheClone
import Derived.Test.YtppodbijdhcclaaQCore
namespace Go.Proofs.Ytppodbijdhcclaa
open Go Go.RowKit
/-- a change, plainly: what it says of its node -/
structure CE where
  gone : Bool
  body : List UInt8
def chv (k : Int) (g : Bool) (v : Value) : List Value := [.int .i64 k, .bool g, v]
theorem aggC : ∀ w, (isAgg 46).run Try.prog w = .ok true w := fun _ => by kernel_rfl
theorem sizeC : ∀ w, (sizeOf 46).run Try.prog w = .ok 3 w := fun _ => by kernel_rfl
theorem Blk.new3c (w : World) (x y z : Value) (t : TypeId) : Blk (w.alloc (.cells #[x, y, z] t)) w.heap.size t [x, y, z] := heap_alloc_new w _
set_option maxRecDepth 100000 in
set_option maxHeartbeats 4000000 in
/-- what 'own' gives: no body where it is gone -/
theorem own_any (k : Int) (g : Bool) (v : Value) (l : List UInt8) (w : World) (hv : Bytes w w.heap.size v l) (hl : l.length ≤ 100000) :
    Calls Try.prog 40 #[.agg #[.int .i64 k, .bool g, v]] w fun e w' => ∃ A c n, Hid ((if g then [] else l).length = n) ∧ e = .returned (.agg #[.int .i64 k, .bool g, .slice A n c]) ∧ Own 5 w' w.heap.size (.slice A n c) (if g then [] else l) ∧ Below w.heap.size w w' := by
  obtain ⟨A, c, rfl, hc, hm, hr⟩ := id hv
  obtain ⟨n, hn⟩ : ∃ n, l.length = n := ⟨_, rfl⟩
  have HN := Lib.hid hn
  have HV := Lib.hid hv
  rw [hn] at hc hl HV ⊢
  clear hn hv hr
  have B0 := Lib.hid ((Blk.new3c w (.int .i64 k) (.bool g) (.slice A n c) 46).alloc (.cells #[.int .i64 0, .bool false, .slice none 0 0] 46))
  have R0' := Blk.new3c (w.alloc (.cells #[.int .i64 k, .bool g, .slice A n c] 46)) (.int .i64 0) (.bool false) (.slice none 0 0) 46
  rw [World.size_alloc] at R0'
  have R0 := Lib.hid R0'
  have H0 : Hid (Below w.heap.size w ((w.alloc (.cells #[.int .i64 k, .bool g, .slice A n c] 46)).alloc (.cells #[.int .i64 0, .bool false, .slice none 0 0] 46))) := Lib.hid (((Below.refl w.heap.size w).alloc (Nat.le_refl _) _).alloc (by simp) _)
  clear R0'
  obtain ⟨gs, hgs⟩ : ∃ gs, gs = w.heap.size := ⟨_, rfl⟩
  go_enter Try.func40, Try.ntmps40
  cases g with
  | true =>
    go_wp2_with (first | (with_reducible refine wpl_seg_store sizeC (.tmp 2) (.tmp 7) rfl rfl R0.out 0 [.int .i64 k, .bool true, .slice none 0 0] rfl (Nat.le_refl _) (by simp [Value.oneCell']) rfl rfl _ rfl ?_); intro w4 R4 g4 e4)
    refine bodyPost_ret (sret1 aggC sizeC rfl _ R4 (i := 0) (vs := [.int .i64 k, .bool true, .slice none 0 0]) rfl rfl rfl) rfl ?_
    exact ⟨none, 0, 0, Lib.hid rfl, rfl, Own.empty, H0.out.grown g4 H0.out.size (fun q e => by cases e; exact Nat.le_succ _)⟩
  | false =>
    have KC := Lib.hid (bclone_any (.slice A n c) l _ ((HV.out.below H0.out).more H0.out.size) (by rw [HN.out]; exact hl))
    rw [HN.out] at KC
    go_wp2_with fail
    refine KC.out.mono ?_
    rintro e w3 ⟨A3, c3, rfl, O3, b3⟩
    have B3 := Lib.hid (B0.out.after b3)
    have R3 := Lib.hid (R0.out.after b3)
    have H3 := Lib.hid (H0.out.trans (b3.mono H0.out.size))
    have HO3 := Lib.hid (O3.lower (base' := w.heap.size + 2) (by simp))
    clear KC b3 O3 B0 R0 H0
    have x3 : w3.cell? ⟨w.heap.size, 2, none⟩ = some (.slice A n c) := B3.out.cell 2
    have f3 := B3.out.free 2
    have B4 := Lib.hid (B3.out.set 2 (.slice A3 n c3))
    have s4 := only_set w3 ⟨w.heap.size, 2, none⟩ (.slice A3 n c3)
    have R4 := Lib.hid (R3.out.grown s4 (by simp))
    have H4 := Lib.hid (H3.out.grown s4 H3.out.size (fun q e => by cases e; exact Nat.le_refl _))
    have O4 := Lib.hid (HO3.out.kept s4 (.inr (fun e => by have h1 : w.heap.size + 2 ≤ w.heap.size := (World.ownsRow.lt HO3.out _ e).1; omega)))
    clear s4
    go_wp2_with (first
      | (with_reducible refine wpl_seg_load aggC sizeC (.tmp 1) rfl rfl B4.out 0 [.int .i64 k, .bool false, .slice A3 n c3] rfl rfl rfl ?_)
      | ((with_reducible refine wpl_seg_store sizeC (.tmp 2) (.tmp 12) rfl rfl R4.out 0 [.int .i64 k, .bool false, .slice A3 n c3] rfl (Nat.le_refl _) (by simp [Value.oneCell']) rfl rfl _ rfl ?_); intro w5 R5 g5 e5))
    refine bodyPost_ret (sret1 aggC sizeC rfl _ R5 (i := 0) (vs := [.int .i64 k, .bool false, .slice A3 n c3]) rfl rfl rfl) rfl ?_
    exact ⟨A3, c3, n, HN, rfl, (O4.out.kept g5 (.inr (fun e => by have h1 : w.heap.size + 2 ≤ w.heap.size + 1 := (World.ownsRow.lt O4.out _ e).1; omega))).lower (by omega), H4.out.grown g5 H4.out.size (fun q e => by cases e; exact Nat.le_succ _)⟩
end Go.Proofs.Ytppodbijdhcclaa

