/- bytes.Clone, and a change of one's own. No condition. -/
import Derived.Test.YtppodbijdhcclaaQCore
namespace Go.Proofs.Ytppodbijdhcclaa
open Go Go.RowKit
theorem nil_none (c : Nat) (w : World) : (binOp .eql 44 (.slice none 0 c) (.slice none 0 0)).run Try.prog w = .ok (.bool true) w := by kernel_rfl
theorem nil_some (a : Addr) (n c : Nat) (w : World) : (binOp .eql 44 (.slice (some a) n c) (.slice none 0 0)).run Try.prog w = .ok (.bool false) w := by kernel_rfl
set_option maxRecDepth 100000 in
set_option maxHeartbeats 4000000 in
theorem bclone_any (v : Value) (l : List UInt8) (w : World) (hv : Bytes w w.heap.size v l) (hl : l.length ≤ 100000) :
    Calls Try.prog 43 #[v] w fun e w' => ∃ A c, e = .returned (.slice A l.length c) ∧ Own 5 w' w.heap.size (.slice A l.length c) l ∧ Below w.heap.size w w' := by
  obtain ⟨A, c, rfl, hc, hm, hr⟩ := hv
  obtain ⟨n, hn⟩ : ∃ n, l.length = n := ⟨_, rfl⟩
  have HN := Lib.hid hn
  rw [hn] at hc hl ⊢
  clear hn
  cases A with
  | none =>
    have h0 : l = [] := by
      cases l with
      | nil => rfl
      | cons x r => obtain ⟨a, e, _⟩ := hr 0 _ rfl; cases e
    subst h0
    obtain rfl : n = 0 := HN.out.symm
    clear hr
    have he := nil_none c
    go_enter Try.func43, Try.ntmps43
    go_wp2_with fail
    go_ret
    exact ⟨none, 0, rfl, Own.empty, Below.refl _ _⟩
  | some a =>
    have O0 := Lib.hid (Own.made (e := 5) (w := w) (base := w.heap.size) #[] 0 (Nat.le_refl _) (by simp [maxLen]) rfl w.heap.size rfl)
    have B0 := Lib.hid ((Below.refl w.heap.size w).alloc (Nat.le_refl _) (.cells #[] 5))
    have HR := Lib.hid (hr.below B0.out)
    have he := nil_some a n c
    clear hr
    go_enter Try.func43, Try.ntmps43
    go_wp2_with (at_builtin; go_loud (refine wpl_append_bytes byteTys rfl (.tmp 5) (.tmp 6) rfl rfl O0.out w.heap.size (.slice (some a) n c) l rfl ⟨some a, c, by rw [HN.out], by rw [HN.out]; exact hc, hm, HR.out⟩ (by simp only [List.length_nil]; have := HN.out; omega) (by simp) n (by simp [HN.out]) ?_); intro A7 c7 w7 O7 g7 h7; have HO := Lib.hid O7; have HG := Lib.hid g7; clear O7 g7 h7)
    go_ret
    exact ⟨A7, c7, rfl, HO.out, B0.out.trans HG.out⟩
end Go.Proofs.Ytppodbijdhcclaa

