/- Layer 12: Grow; the document's example. No condition. -/
import Derived.Test.YticigjkaangkmaaQViewO
namespace Go.Proofs.Yticigjkaangkmaa
open Go Go.RowKit
set_option maxRecDepth 100000 in
set_option maxHeartbeats 4000000 in
theorem grow_any (v : VV) (b : Nat) (w : World) :
    Calls Try.prog 15 #[va v, .int .u64 (b : Int)] w fun e w' => e = .returned (.tuple #[va (v.grow b).1, .int .i64 (v.grow b).2]) ∧ Below w.heap.size w w' := by
  obtain ⟨b1, P1, R1⟩ := boxes w v
  have b1 := Lib.hid b1
  have P1 := Lib.hid P1
  have R1 := Lib.hid R1
  have hgr := Lib.hid R1.out.lt
  obtain ⟨W, hW⟩ : ∃ W, W = (w.alloc (.cells #[.int .u64 (v.n : Int), .int .i64 v.m, .int .u64 (v.b : Int)] 24)).alloc (.cells #[.int .u64 0, .int .i64 0, .int .u64 0] 24) := ⟨_, rfl⟩
  have HW := Lib.hid hW
  rw [← hW] at b1 P1 R1 hgr
  clear hW
  have kh := has2_at v W (w.heap.size + 1 + 1) (by rw [HW.out]; simp [World.size_alloc])
  cases hr : v.has 0 && v.has 1
  · rw [hr] at kh
    have HN := Lib.hid (VV.grow_yes (b := b) hr)
    have KN := Lib.hid (fun w => next_any v 3 b w)
    obtain ⟨x, hx⟩ : ∃ x, (v.next 3 b).1 = x := ⟨_, rfl⟩
    obtain ⟨er, her⟩ : ∃ er, (v.next 3 b).2 = er := ⟨_, rfl⟩
    rw [hx, her] at KN
    have HX : Hid ((v.grow b).1 = x ∧ (v.grow b).2 = er) := Lib.hid ⟨by rw [HN.out, hx], by rw [HN.out, her]⟩
    clear hr hx her HN
    go_enter Try.func15, Try.ntmps15
    go_wp2_with fail
    rw [← HW.out]
    ((with_reducible refine (kh).mono ?_); rintro e w2 ⟨rfl, b2⟩)
    have T2 := Lib.hid (b1.out.trans (b2.mono b1.out.size))
    have R2 := Lib.hid (R1.out.after b2)
    have P2 := Lib.hid (P1.out.after b2)
    clear b2
    go_wp2_with (with_reducible refine wpl_vload (.tmp 2) rfl rfl P2.out rfl ?_)
    ((with_reducible refine (KN.out _).mono ?_); rintro e w3 ⟨rfl, b3⟩)
    have T3 := Lib.hid (T2.out.trans (b3.mono T2.out.size))
    have R3 := Lib.hid (R2.out.after b3)
    have P3 := Lib.hid (P2.out.after b3)
    clear b3
    go_wp2_with ((with_reducible refine wpl_vstore (.tmp 4) (.tmp 13) rfl rfl R3.out rfl rfl rfl rfl rfl ?_); intro w9 R9 g9 e9; have T9 := Lib.hid (T3.out.grown g9 T3.out.size (fun k e => by cases e; exact Nat.le_succ _)); have S9 := Lib.hid R9; clear R9 g9 e9)
    refine bodyPost_ret (vret2 rfl _ S9.out rfl) rfl ?_
    rw [HX.out.1, HX.out.2]
    exact ⟨rfl, T9.out⟩
  · rw [hr] at kh
    have HN := Lib.hid (VV.grow_no (b := b) hr)
    clear hr
    go_enter Try.func15, Try.ntmps15
    go_wp2_with fail
    rw [← HW.out]
    ((with_reducible refine (kh).mono ?_); rintro e w2 ⟨rfl, b2⟩)
    have T2 := Lib.hid (b1.out.trans (b2.mono b1.out.size))
    have R2 := Lib.hid (R1.out.after b2)
    have P2 := Lib.hid (P1.out.after b2)
    clear b2
    go_wp2_with ((with_reducible refine wpl_vstore (.tmp 4) (.tmp 9) rfl rfl R2.out rfl rfl rfl rfl rfl ?_); intro w9 R9 g9 e9; have T9 := Lib.hid (T2.out.grown g9 T2.out.size (fun k e => by cases e; exact Nat.le_succ _)); have S9 := Lib.hid R9; clear R9 g9 e9)
    refine bodyPost_ret (vret2 rfl _ S9.out rfl) rfl ?_
    rw [HN.out]
    exact ⟨rfl, T9.out⟩
theorem vspeaks_any (w : World) : Calls Try.prog 10 #[] w fun e w' => e = .returned (.bool true) ∧ Below w.heap.size w w' := by
  have k1 : Calls Try.prog 12 #[.agg #[.int .u64 4, .int .i64 3, .int .u64 0], .int .i64 1, .int .u64 9] w fun e w' => e = .returned (.tuple #[.agg #[.int .u64 5, .int .i64 2, .int .u64 9], .int .i64 0]) ∧ Below w.heap.size w w' := by
    have h := shrink_any ⟨4, 3, 0⟩ 1 9 w
    rw [show (VV.mk 4 3 0).shrink 1 9 = (⟨5, 2, 9⟩, 0) by decide] at h
    exact h
  have k2 : ∀ w, Calls Try.prog 15 #[.agg #[.int .u64 5, .int .i64 2, .int .u64 9], .int .u64 9] w fun e w' => e = .returned (.tuple #[.agg #[.int .u64 6, .int .i64 3, .int .u64 9], .int .i64 0]) ∧ Below w.heap.size w w' := fun w => by
    have h := grow_any ⟨5, 2, 9⟩ 9 w
    rw [show (VV.mk 5 2 9).grow 9 = (⟨6, 3, 9⟩, 0) by decide] at h
    exact h
  go_enter Try.func10, Try.ntmps10
  go_wp2_with fail
  ((with_reducible refine k1.mono ?_); rintro e w2 ⟨rfl, b2⟩)
  have T2 := Lib.hid b2
  clear b2
  go_wp2_with fail
  ((with_reducible refine (k2 _).mono ?_); rintro e w3 ⟨rfl, b3⟩)
  have A2 := Lib.hid (Blk.new w2 24 [.int .u64 5, .int .i64 2, .int .u64 9])
  have t2 := Lib.hid (T2.out.alloc T2.out.size (.cells #[.int .u64 5, .int .i64 2, .int .u64 9] 24))
  have A3 := Lib.hid (A2.out.after b3)
  have T3 := Lib.hid (t2.out.trans (b3.mono t2.out.size))
  clear b3 t2
  go_wp2_with (with_reducible refine wpl_vload (.tmp 1) rfl rfl (A3.out.alloc _) rfl ?_)
  go_ret
  exact ⟨rfl, T3.out.alloc T3.out.size _⟩
end Go.Proofs.Yticigjkaangkmaa

