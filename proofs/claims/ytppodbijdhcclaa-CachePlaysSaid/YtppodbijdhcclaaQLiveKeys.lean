/- Keys: the keys there are, from the least on. No condition. -/
import Derived.Test.YtppodbijdhcclaaQLiveWith
import Derived.Test.YtppodbijdhcclaaQCore
namespace Go.Proofs.Ytppodbijdhcclaa
open Go.RowKit
theorem kintTy : OneCell Try.prog 78 3 (.int .i64 0) 8 := OneCell.mk' Try.underlying78 (by kernel_rfl) (by decide)
def kv (zs : List Nat) : List Value := zs.map fun z : Nat => Value.int .i64 (z : Int)
theorem kv_length (zs : List Nat) : (kv zs).length = zs.length := List.length_map _
theorem kv_append (a b : List Nat) : kv (a ++ b) = kv a ++ kv b := by simp [kv]
theorem lowRow {w : World} {b b' : Nat} {e : TypeId} {v : Value} {n : Nat} {xs : List Value} (h : w.ownsRow b e 1 v n xs) (hb : b' ≤ b) : w.ownsRow b' e 1 v n xs := by
  obtain ⟨h1, h2⟩ := h
  refine ⟨h1, ?_⟩
  rcases h2 with h2 | ⟨g, cap, cur, hv, hg, r⟩
  · exact .inl h2
  · exact .inr ⟨g, cap, cur, hv, Nat.le_trans hb hg, r⟩
theorem keep_larr {w w' : World} {g : Nat} {L : List UInt8} {v : Value} {e : TypeId} {n : Nat} {xs : List Value} (h : LArr w g L) (hg : w.grownBy w' v.ownBlock) (ho : w.ownsRow (g + 1) e 1 v n xs) : LArr w' g L :=
  ⟨(hg.block g h.lt (fun q => by have := (ho.lt g q.symm).1; omega)).trans h.1, h.2⟩
set_option maxRecDepth 100000 in
set_option maxHeartbeats 8000000 in
theorem keys_any (L : List UInt8) (hL : L.length = 32) (w : World) :
    Calls Try.prog 38 #[.agg (cl L)] w fun e w' => ∃ X c, e = .returned (.slice X (keysTo L 256).length c) ∧ w'.ownsRow w.heap.size 3 1 (.slice X (keysTo L 256).length c) (keysTo L 256).length (kv (keysTo L 256)) ∧ Below w.heap.size w w' := by
  have A0 := Lib.hid (LArr.new w hL)
  have B0 := Lib.hid ((Below.refl w.heap.size w).alloc (Nat.le_refl _) (.cells (cl L) 53))
  have O0 := Lib.hid (World.ownsRow_nil (w.alloc (.cells (cl L) 53)) (w.heap.size + 1) 3 1)
  have HL := Lib.hid hL
  clear hL
  go_enter Try.func38, Try.ntmps38
  go_wp2_with fail
  go_loopw [3, 5] (fun u i wr => ∃ k : Nat, k ≤ 256 ∧ i = .int .i64 k ∧ ∃ X n c, u = .slice X n c ∧ n = (keysTo L k).length ∧ Hid (wr.ownsRow (w.heap.size + 1) 3 1 (.slice X n c) n (kv (keysTo L k))) ∧ Hid (LArr wr w.heap.size L) ∧ Hid (Below w.heap.size w wr)) (fun _ i _ => 256 - (intOf i).toNat)
  case atStart => exact ⟨0, Nat.zero_le _, rfl, _, _, _, rfl, rfl, O0, A0, B0⟩
  case round =>
    clear A0 B0 O0
    rename_i wr
    obtain ⟨k, hk, rfl, X, n, c, rfl, hn, hO, hA, hb⟩ := hrel
    by_cases hlt : k < 256
    · have hd : decide ((k : Int) < 256) = true := by rw [decide_eq_true_iff]; omega
      have HN := Lib.hid hn
      have HS := Lib.hid (keysTo_succ L k)
      have hle : n ≤ 256 := by rw [hn]; exact Nat.le_trans (keysTo_length_le L k) (by omega)
      have c1 := has_any L HL.out (k : Int)
      rw [lhas_nat L hlt] at c1
      clear hn
      go_wp2_with (with_reducible refine wpl_lload (.tmp 1) rfl rfl hA.out rfl ?_)
      ((with_reducible refine (c1 _).mono ?_); rintro e w2 ⟨rfl, hb1⟩)
      have A2 := Lib.hid (hA.out.after hb1)
      have B2 := Lib.hid (hb.out.trans (hb1.mono hb.out.size))
      have O2 := Lib.hid (World.ownsRow.kept hO.out (only_of_below hb1 none) (by cases (Value.slice X n c).ownBlock <;> simp))
      have hs2 : Hid (w.heap.size + 1 ≤ w2.heap.size) := Lib.hid (Nat.le_trans (hA.out.lt) hb1.size)
      clear hb1 hA hb hO
      by_cases hh : hasB L k = true
      · rw [if_pos hh] at HS
        rw [hh]
        have O3 := Lib.hid (O2.out.alloc (.cells #[.int .i64 (k : Int)] 3))
        have A3 := Lib.hid (A2.out.alloc (.cells #[.int .i64 (k : Int)] 3))
        have B3 := Lib.hid (B2.out.alloc B2.out.size (.cells #[.int .i64 (k : Int)] 3))
        have R3 := Lib.hid (Row.new w2 #[.int .i64 (k : Int)] 3 (0, 0) w2.heap.size rfl (Nat.lt_succ_self _))
        have S3 : Hid (w.heap.size + 1 ≤ (w2.alloc (.cells #[.int .i64 (k : Int)] 3)).heap.size) := Lib.hid (by rw [World.size_alloc]; have := hs2.out; omega)
        have M3 : Hid (n + 1 ≤ maxLen) := Lib.hid (by simp only [maxLen]; omega)
        go_wp2_with (at_builtin; refine wpl_append_vals kintTy rfl (.tmp 11) (.tmp 13) rfl n rfl O3.out _ _ _ [.int .i64 (k : Int)] 1 rfl rfl R3.out (by intro u hu; simp at hu; subst hu; rfl) (by omega) M3.out S3.out (n + 1) rfl ?_; intro X2 c2 w4 O4 g4 h4)
        go_roundw
        case rel => exact ⟨k + 1, by omega, by go_num, X2, n + 1, c2, rfl, by rw [HS.out, List.length_append, ← HN.out]; rfl, Lib.hid (by rw [HS.out, kv_append]; exact O4), Lib.hid (keep_larr A3.out g4 O3.out), Lib.hid (B3.out.grown g4 B3.out.size (fun q e => by have := (O3.out.lt q e).1; omega))⟩
        case measure => simp [intOf]; omega
      · have hf : hasB L k = false := by simpa using hh
        rw [if_neg hh, List.append_nil] at HS
        rw [hf]
        go_wp2_with fail
        go_roundw
        case rel => exact ⟨k + 1, by omega, by go_num, X, n, c, rfl, by rw [HS.out]; exact HN.out, Lib.hid (by rw [HS.out]; exact O2.out), A2, B2⟩
        case measure => simp [intOf]; omega
    · obtain rfl : k = 256 := by omega
      subst hn
      go_wp2_with fail
      go_ret
      exact ⟨X, c, rfl, lowRow hO.out (Nat.le_succ _), hb.out⟩
end Go.Proofs.Ytppodbijdhcclaa

