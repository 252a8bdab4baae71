/- Several texts of the proof, joined: what each has is said at its head. -/
import Derived.Test.YtppodbijdhcclaaQFileJA
import Derived.Test.YtppodbijdhcclaaQInoJB
import Derived.Test.YtppodbijdhcclaaQCacheJD
import Derived.Deep.Upon
/- Get and open of file, over a cache that tells inodes. No condition but that. -/
namespace Go.Proofs.Ytppodbijdhcclaa
open Go Go.RowKit
def FI.ino : FI → IN
  | .dir => ⟨2, 0, []⟩
  | .file l => ⟨1, (l.length : Int), []⟩
theorem ino_ok {x : FI} (h : ∀ l, x = .file l → l.length ≤ 768) : x.ino.ok := by
  cases x with
  | dir => exact .inr ⟨rfl, rfl, Nat.zero_le _, GoodTo.zero _⟩
  | file l => exact .inl ⟨rfl, Int.natCast_nonneg _, by have := h l rfl; show (l.length : Int) ≤ 768; omega, rfl⟩
theorem head_bytes {x : FI} (h : ∀ l, x = .file l → l.length ≤ 768) : x.head = x.ino.bytes := by
  cases x with
  | dir => rfl
  | file l =>
    have := h l rfl
    unfold FI.head FI.ino IN.bytes
    rw [if_pos rfl]
    have e1 : ∀ a b : Nat, a % 256 = b % 256 → UInt8.ofNat a = UInt8.ofNat b := fun a b h => UInt8.toNat_inj.1 (by rw [UInt8.toNat_ofNat', UInt8.toNat_ofNat']; exact h)
    show [(1 : UInt8), UInt8.ofNat (l.length % 256), UInt8.ofNat (l.length / 256)] = [UInt8.ofNat 1, UInt8.ofNat (l.length : Int).toNat, UInt8.ofNat ((l.length : Int).toNat / 256)]
    rw [Int.toNat_natCast, e1 (l.length % 256) l.length (by omega)]
    rfl
set_option maxRecDepth 100000 in
set_option maxHeartbeats 4000000 in
theorem fget_none (i : CI) (N : Nat) (F : FS) (S : Nat → Prop) (n : Int) (w : World) (h : FAt w i N F S) (hF : F n = none) :
    Calls Try.prog 35 #[.pointer (some ⟨i.q, 0, none⟩), .int .i64 n] w fun e w' => e = .returned (.tuple #[.agg #[.int .i64 0, .int .i64 0, .slice none 0 0], .int .i64 61]) ∧ Below w.heap.size w w' := by
  have b1 := Lib.hid ((Below.refl w.heap.size w).alloc (Nat.le_refl _) (.cells #[.int .i64 0, .int .i64 0, .slice none 0 0] 66))
  have B1 := Lib.hid (Blk.new3c w (.int .i64 0) (.int .i64 0) (.slice none 0 0) 66)
  have H1 := Lib.hid (h.after b1.out)
  have HG : Hid (∃ g, g = w.heap.size) := Lib.hid ⟨_, rfl⟩
  obtain ⟨g, hg⟩ := HG.out
  have HGe := Lib.hid hg
  by_cases hn : 1 ≤ n ∧ n ≤ 24
  · have KK := Lib.hid (fun w => key_any n 0 w)
    rw [show keyOf n 0 = 8 * n from by unfold keyOf; rw [if_pos (by omega)]; omega] at KK
    have hwf : (Lit.int .i64 (8 * n)).wf = true := wfC ⟨by omega, by omega⟩
    have hnd : F.node (8 * n) = none := by
      have := FS.node_key F n 0 (by omega)
      rw [hF] at this
      simpa using this
    have KG : Hid (∀ w2, FAt w2 i N F S → Calls Try.prog 22 #[.pointer (some ⟨i.q, 0, none⟩), .int .i64 (8 * n)] w2 fun e w' => GetC w2 none e w') := Lib.hid (fun w2 h2 => by
      have := get_fat i N F S (8 * n) w2 h2 hwf
      rwa [hnd] at this)
    have d1 : ¬ 8 * n < 0 := by omega
    clear hn hwf hnd h hF hg
    go_enter Try.func35, Try.ntmps35
    go_wp2_with (first
      | (go_at_call 61; (with_reducible refine (KK.out _).mono ?_); rintro e w2 ⟨rfl, rfl⟩)
      | (go_at_call 22; (with_reducible refine (KG.out _ H1.out).mono ?_); rintro e w2 ⟨b2, rfl⟩; have HB2 := Lib.hid (b1.out.trans (b2.mono b1.out.size)); have B2 := Lib.hid (B1.out.after b2); clear b2)
      | (with_reducible refine wpl_seg_store sizeI (.tmp 4) (.tmp 23) rfl rfl B2.out 0 [.int .i64 0, .int .i64 0, .slice none 0 0] rfl (Nat.le_refl _) (by simp [Value.oneCell']) rfl rfl _ rfl ?_; intro w4 R4 g4 e4))
    refine bodyPost_ret (iret2 rfl _ R4 rfl rfl) rfl ?_
    exact ⟨rfl, HB2.out.grown g4 HB2.out.size (fun q e => by cases e; exact Nat.le_refl _)⟩
  · have KK := Lib.hid (fun w => key_any n 0 w)
    rw [show keyOf n 0 = -1 from by unfold keyOf; rw [if_neg (by omega)]] at KK
    clear hn h hF hg
    go_enter Try.func35, Try.ntmps35
    go_wp2_with (first
      | (go_at_call 61; (with_reducible refine (KK.out _).mono ?_); rintro e w2 ⟨rfl, rfl⟩)
      | (with_reducible refine wpl_seg_store sizeI (.tmp 4) (.tmp 14) rfl rfl B1.out 0 [.int .i64 0, .int .i64 0, .slice none 0 0] rfl (Nat.le_refl _) (by simp [Value.oneCell']) rfl rfl _ rfl ?_; intro w4 R4 g4 e4))
    refine bodyPost_ret (iret2 rfl _ R4 rfl rfl) rfl ?_
    exact ⟨rfl, b1.out.grown g4 b1.out.size (fun q e => by cases e; exact Nat.le_refl _)⟩
def inoV (n : IN) (A : Option Addr) (c : Nat) : List Value := [.int .i64 n.k, .int .i64 n.z, .slice A 0 c]
set_option maxRecDepth 100000 in
set_option maxHeartbeats 4000000 in
theorem fget_some (i : CI) (N : Nat) (F : FS) (S : Nat → Prop) (n : Int) (x : FI) (w : World) (h : FAt w i N F S) (hF : F n = some x) :
    Calls Try.prog 35 #[.pointer (some ⟨i.q, 0, none⟩), .int .i64 n] w fun e w' => ∃ A c, e = .returned (.tuple #[.agg #[.int .i64 x.ino.k, .int .i64 x.ino.z, .slice A 0 c], .int .i64 0]) ∧ Below w.heap.size w w' := by
  obtain ⟨hn, hl⟩ := h.ok n x hF
  have b1 := Lib.hid ((Below.refl w.heap.size w).alloc (Nat.le_refl _) (.cells #[.int .i64 0, .int .i64 0, .slice none 0 0] 66))
  have B1 := Lib.hid (Blk.new3c w (.int .i64 0) (.int .i64 0) (.slice none 0 0) 66)
  have H1 := Lib.hid (h.after b1.out)
  have KK := Lib.hid (fun w => key_any n 0 w)
  rw [show keyOf n 0 = 8 * n from by unfold keyOf; rw [if_pos (by omega)]; omega] at KK
  have hwf : (Lit.int .i64 (8 * n)).wf = true := wfC ⟨by omega, by omega⟩
  have hnd : F.node (8 * n) = some x.head := by
    have := FS.node_key F n 0 (by omega)
    rw [hF, show 8 * n + ((0 : Nat) : Int) = 8 * n by omega] at this
    exact this
  have KG : Hid (∀ w2, FAt w2 i N F S → Calls Try.prog 22 #[.pointer (some ⟨i.q, 0, none⟩), .int .i64 (8 * n)] w2 fun e w' => GetC w2 (some x.head) e w') := Lib.hid (fun w2 h2 => by
    have := get_fat i N F S (8 * n) w2 h2 hwf
    rwa [hnd] at this)
  have hr : inoR x.head = some x.ino := by rw [head_bytes hl]; exact inoR_back (ino_ok hl)
  have KR : Hid (∀ v w, Bytes w w.heap.size v x.head → Calls Try.prog 62 #[v] w fun e w' => ∃ A c, e = .returned (.tuple #[.agg #[.int .i64 x.ino.k, .int .i64 x.ino.z, .slice A 0 c], .int .i64 0]) ∧ Below w.heap.size w w') := Lib.hid (fun v w hv => by
    refine (read_any v x.head w hv).mono ?_
    rintro e w' ⟨m, hm, A, c, rfl, _, b⟩
    have hm2 := hm.out
    rw [hr] at hm2 ⊢
    have hm3 : m = x.ino := hm2
    subst hm3
    refine ⟨A, c, ?_, b⟩
    cases x <;> rfl)
  have HM : Hid (x.head.length ≤ maxLen) := Lib.hid (by have := x.head_len; unfold maxLen; omega)
  have d1 : ¬ 8 * n < 0 := by omega
  obtain ⟨K, hK⟩ : ∃ K, K = x.ino.k := ⟨_, rfl⟩
  obtain ⟨Z, hZ⟩ : ∃ Z, Z = x.ino.z := ⟨_, rfl⟩
  obtain ⟨L, hL⟩ : ∃ L, L = x.head := ⟨_, rfl⟩
  obtain ⟨ln, hln⟩ : ∃ ln, ln = L.length := ⟨_, rfl⟩
  rw [← hK, ← hZ, ← hL] at KR
  rw [← hL] at KG HM
  rw [← hK, ← hZ]
  have HLN := Lib.hid hln
  clear hn hl hwf hnd h hF hr hK hZ hL hln
  go_enter Try.func35, Try.ntmps35
  go_upto_region 7 with (first
    | (go_at_call 61; (with_reducible refine (KK.out _).mono ?_); rintro e w2 ⟨rfl, rfl⟩)
    | (go_at_call 22; (with_reducible refine (KG.out _ H1.out).mono ?_); rintro e w2 ⟨b2, A2, c2, rfl, o2⟩; have O2 := Lib.hid o2; have HB2 := Lib.hid (b1.out.trans (b2.mono b1.out.size)); have B2 := Lib.hid (B1.out.after b2); clear b2 o2))
  have BY2 := Lib.hid (O2.out.bytes HM.out)
  rw [← HLN.out] at BY2 ⊢
  have KR2 := Lib.hid (KR.out _ _ BY2.out)
  clear O2 KR KG KK H1 b1 B1
  go_wp2_with (first
    | (go_at_call 62; (with_reducible refine KR2.out.mono ?_); rintro e w3 ⟨A3, c3, rfl, b3⟩; have HB3 := Lib.hid (HB2.out.trans (b3.mono HB2.out.size)); have B3 := Lib.hid ((B2.out.after b3).alloc (.cells #[.int .i64 0, .int .i64 0, .slice none 0 0] 66)); have LT := Lib.hid (B2.out.after b3).lt; have X3 := Lib.hid (Blk.new3c w3 (.int .i64 0) (.int .i64 0) (.slice none 0 0) 66); have HB4 := Lib.hid (HB3.out.alloc HB3.out.size (.cells #[.int .i64 0, .int .i64 0, .slice none 0 0] 66)); clear b3)
    | (with_reducible refine wpl_seg_store sizeI (.tmp 9) (.tmp 28) rfl rfl X3.out 0 [.int .i64 K, .int .i64 Z, .slice A3 0 c3] rfl (Nat.le_refl _) (by simp [Value.oneCell']) rfl rfl _ rfl ?_; intro w5 R5 g5 e5; have B5 := Lib.hid (B3.out.grown g5 (by simp only [ne_eq, Option.some.injEq]; have := LT.out; omega)); have HB5 := Lib.hid (HB4.out.grown g5 HB4.out.size (fun q e => by cases e; exact HB3.out.size)))
    | (with_reducible refine wpl_seg_store sizeI (.tmp 4) (.tmp 33) rfl rfl B5.out 0 [.int .i64 K, .int .i64 Z, .slice A3 0 c3] rfl (Nat.le_refl _) (by simp [Value.oneCell']) rfl rfl _ rfl ?_; intro w6 R6 g6 e6)
    | (with_reducible refine wpl_seg_load aggI sizeI (.tmp 9) rfl rfl R5 0 [.int .i64 K, .int .i64 Z, .slice A3 0 c3] rfl rfl rfl ?_))
  refine bodyPost_ret (iret2 rfl _ R6 rfl rfl) rfl ?_
  exact ⟨A3, c3, rfl, HB5.out.grown g6 HB5.out.size (fun q e => by cases e; exact Nat.le_refl _)⟩
set_option maxRecDepth 100000 in
set_option maxHeartbeats 4000000 in
theorem fopen_none (i : CI) (N : Nat) (F : FS) (S : Nat → Prop) (n : Int) (w : World) (h : FAt w i N F S) (hF : F n = none) :
    Calls Try.prog 47 #[.pointer (some ⟨i.q, 0, none⟩), .int .i64 n] w fun e w' => e = .returned (.tuple #[.agg #[.pointer none, .int .i64 0, .int .i64 0], .int .i64 61]) ∧ Below w.heap.size w w' := by
  have b1 := Lib.hid ((Below.refl w.heap.size w).alloc (Nat.le_refl _) (.cells #[.pointer none, .int .i64 0, .int .i64 0] 101))
  have B1 := Lib.hid (Blk.new3c w (.pointer none) (.int .i64 0) (.int .i64 0) 101)
  have H1 := Lib.hid (h.after b1.out)
  have KG := Lib.hid (fget_none i N F S n _ H1.out hF)
  clear h hF H1
  go_enter Try.func47, Try.ntmps47
  go_wp2_with (first
    | (go_at_call 35; (with_reducible refine KG.out.mono ?_); rintro e w2 ⟨rfl, b2⟩; have B2 := Lib.hid (B1.out.after b2); have HB2 := Lib.hid (b1.out.trans (b2.mono b1.out.size)); have HB2a := Lib.hid (HB2.out.alloc HB2.out.size (.cells #[.int .i64 0, .int .i64 0, .slice none 0 0] 66)); have LT := Lib.hid B2.out.lt; have X2 := Lib.hid (Blk.new3c w2 (.int .i64 0) (.int .i64 0) (.slice none 0 0) 66); clear b2)
    | (refine wpl_seg_store sizeI (.tmp 6) (.tmp 12) rfl rfl X2.out 0 [.int .i64 0, .int .i64 0, .slice none 0 0] rfl (Nat.le_refl _) (by simp [Value.oneCell']) rfl rfl _ rfl ?_; intro w5 R5 g5 e5; have B5 := Lib.hid ((B2.out.alloc (.cells #[.int .i64 0, .int .i64 0, .slice none 0 0] 66)).grown g5 (by simp only [ne_eq, Option.some.injEq]; have := LT.out; omega)); have HB5 := Lib.hid (HB2a.out.grown g5 HB2a.out.size (fun q e => by cases e; exact HB2.out.size)); have y0 : w5.cell? ⟨w2.heap.size, 0, none⟩ = some (.int .i64 0) := R5.cell 0; have y1 : w5.cell? ⟨w2.heap.size, 1, none⟩ = some (.int .i64 0) := R5.cell 1)
    | (refine wpl_seg_store sizeF (.tmp 4) (.tmp 16) rfl rfl B5.out 0 [.pointer none, .int .i64 0, .int .i64 0] rfl (Nat.le_refl _) (by simp [Value.oneCell']) rfl rfl _ rfl ?_; intro w6 R6 g6 e6))
  refine bodyPost_ret (sret2 aggF sizeF rfl _ R6 (i := 0) (vs := [.pointer none, .int .i64 0, .int .i64 0]) rfl rfl rfl) rfl ?_
  exact ⟨rfl, HB5.out.grown g6 HB5.out.size (fun q e => by cases e; exact Nat.le_refl _)⟩
set_option maxRecDepth 100000 in
set_option maxHeartbeats 4000000 in
theorem fopen_dir (i : CI) (N : Nat) (F : FS) (S : Nat → Prop) (n : Int) (w : World) (h : FAt w i N F S) (hF : F n = some .dir) :
    Calls Try.prog 47 #[.pointer (some ⟨i.q, 0, none⟩), .int .i64 n] w fun e w' => e = .returned (.tuple #[.agg #[.pointer none, .int .i64 0, .int .i64 0], .int .i64 64]) ∧ Below w.heap.size w w' := by
  have b1 := Lib.hid ((Below.refl w.heap.size w).alloc (Nat.le_refl _) (.cells #[.pointer none, .int .i64 0, .int .i64 0] 101))
  have B1 := Lib.hid (Blk.new3c w (.pointer none) (.int .i64 0) (.int .i64 0) 101)
  have H1 := Lib.hid (h.after b1.out)
  have KG := Lib.hid (fget_some i N F S n .dir _ H1.out hF)
  unfold FI.ino at KG
  dsimp only at KG
  clear h hF H1
  go_enter Try.func47, Try.ntmps47
  go_wp2_with (first
    | (go_at_call 35; (with_reducible refine KG.out.mono ?_); rintro e w2 ⟨A2, c2, rfl, b2⟩; have B2 := Lib.hid (B1.out.after b2); have HB2 := Lib.hid (b1.out.trans (b2.mono b1.out.size)); have HB2a := Lib.hid (HB2.out.alloc HB2.out.size (.cells #[.int .i64 0, .int .i64 0, .slice none 0 0] 66)); have LT := Lib.hid B2.out.lt; have X2 := Lib.hid (Blk.new3c w2 (.int .i64 0) (.int .i64 0) (.slice none 0 0) 66); clear b2)
    | (refine wpl_seg_store sizeI (.tmp 6) (.tmp 12) rfl rfl X2.out 0 [.int .i64 2, .int .i64 0, .slice A2 0 c2] rfl (Nat.le_refl _) (by simp [Value.oneCell']) rfl rfl _ rfl ?_; intro w5 R5 g5 e5; have B5 := Lib.hid ((B2.out.alloc (.cells #[.int .i64 0, .int .i64 0, .slice none 0 0] 66)).grown g5 (by simp only [ne_eq, Option.some.injEq]; have := LT.out; omega)); have HB5 := Lib.hid (HB2a.out.grown g5 HB2a.out.size (fun q e => by cases e; exact HB2.out.size)); have y0 : w5.cell? ⟨w2.heap.size, 0, none⟩ = some (.int .i64 2) := R5.cell 0; have y1 : w5.cell? ⟨w2.heap.size, 1, none⟩ = some (.int .i64 0) := R5.cell 1)
    | (refine wpl_seg_store sizeF (.tmp 4) (.tmp 21) rfl rfl B5.out 0 [.pointer none, .int .i64 0, .int .i64 0] rfl (Nat.le_refl _) (by simp [Value.oneCell']) rfl rfl _ rfl ?_; intro w6 R6 g6 e6))
  refine bodyPost_ret (sret2 aggF sizeF rfl _ R6 (i := 0) (vs := [.pointer none, .int .i64 0, .int .i64 0]) rfl rfl rfl) rfl ?_
  exact ⟨rfl, HB5.out.grown g6 HB5.out.size (fun q e => by cases e; exact Nat.le_refl _)⟩
set_option maxRecDepth 100000 in
set_option maxHeartbeats 4000000 in
theorem fopen_file (i : CI) (N : Nat) (F : FS) (S : Nat → Prop) (n : Int) (l : List UInt8) (w : World) (h : FAt w i N F S) (hF : F n = some (.file l)) :
    Calls Try.prog 47 #[.pointer (some ⟨i.q, 0, none⟩), .int .i64 n] w fun e w' => e = .returned (.tuple #[.agg #[.pointer (some ⟨i.q, 0, none⟩), .int .i64 n, .int .i64 (l.length : Int)], .int .i64 0]) ∧ Below w.heap.size w w' := by
  have b1 := Lib.hid ((Below.refl w.heap.size w).alloc (Nat.le_refl _) (.cells #[.pointer none, .int .i64 0, .int .i64 0] 101))
  have B1 := Lib.hid (Blk.new3c w (.pointer none) (.int .i64 0) (.int .i64 0) 101)
  have H1 := Lib.hid (h.after b1.out)
  have KG := Lib.hid (fget_some i N F S n (.file l) _ H1.out hF)
  unfold FI.ino at KG
  dsimp only at KG
  clear h hF H1
  go_enter Try.func47, Try.ntmps47
  go_wp2_with (first
    | (go_at_call 35; (with_reducible refine KG.out.mono ?_); rintro e w2 ⟨A2, c2, rfl, b2⟩; have B2 := Lib.hid (B1.out.after b2); have HB2 := Lib.hid (b1.out.trans (b2.mono b1.out.size)); have HB2a := Lib.hid (HB2.out.alloc HB2.out.size (.cells #[.int .i64 0, .int .i64 0, .slice none 0 0] 66)); have LT := Lib.hid B2.out.lt; have X2 := Lib.hid (Blk.new3c w2 (.int .i64 0) (.int .i64 0) (.slice none 0 0) 66); clear b2)
    | (refine wpl_seg_store sizeI (.tmp 6) (.tmp 12) rfl rfl X2.out 0 [.int .i64 1, .int .i64 (l.length : Int), .slice A2 0 c2] rfl (Nat.le_refl _) (by simp [Value.oneCell']) rfl rfl _ rfl ?_; intro w5 R5 g5 e5; have B5 := Lib.hid ((B2.out.alloc (.cells #[.int .i64 0, .int .i64 0, .slice none 0 0] 66)).grown g5 (by simp only [ne_eq, Option.some.injEq]; have := LT.out; omega)); have HB5 := Lib.hid (HB2a.out.grown g5 HB2a.out.size (fun q e => by cases e; exact HB2.out.size)); have y0 : w5.cell? ⟨w2.heap.size, 0, none⟩ = some (.int .i64 1) := R5.cell 0; have y1 : w5.cell? ⟨w2.heap.size, 1, none⟩ = some (.int .i64 (l.length : Int)) := R5.cell 1)
    | (refine wpl_seg_store sizeF (.tmp 4) (.tmp 26) rfl rfl B5.out 0 [.pointer (some ⟨i.q, 0, none⟩), .int .i64 n, .int .i64 (l.length : Int)] rfl (Nat.le_refl _) (by simp [Value.oneCell']) rfl rfl _ rfl ?_; intro w6 R6 g6 e6))
  refine bodyPost_ret (sret2 aggF sizeF rfl _ R6 (i := 0) (vs := [.pointer (some ⟨i.q, 0, none⟩), .int .i64 n, .int .i64 (l.length : Int)]) rfl rfl rfl) rfl ?_
  exact ⟨rfl, HB5.out.grown g6 HB5.out.size (fun q e => by cases e; exact Nat.le_refl _)⟩
end Go.Proofs.Ytppodbijdhcclaa

/- An append of changes to changes of a call's own, of none too. No condition. -/
namespace Go.Proofs.Ytppodbijdhcclaa
open Go Go.RowKit
section
variable {w w' : World} {base : Nat} {v : Value} {cs ds : List CV} {ls ms : List (List UInt8)}
/-- the bodies of changes, in blocks of which S speaks -/
def BodS (w : World) (S : Nat → Prop) (cs : List CV) (ls : List (List UInt8)) : Prop := cs.length = ls.length ∧ ∀ (i : Nat) (x : CV), cs[i]? = some x → BytesS w S (.slice x.A x.n x.c) (ls.getD i [])
theorem ChOwn.appends {A : Option Addr} {c : Nat} {k : Nat} (h : ChOwn w base v cs ls) (hx : BodS w (fun b => base ≤ b ∧ b < w.heap.size ∧ v.ownBlock ≠ some b) ds ms)
    (hr : w'.ownsRow base 46 3 (.slice A k c) k (cs.flatMap crow ++ ds.flatMap crow)) (hk : cs.length + ds.length = k) (hg : w.grownBy w' v.ownBlock) (ho : (Value.slice A k c).ownBlock = v.ownBlock ∨ (Value.slice A k c).ownBlock = some w.heap.size) : ChOwn w' base (.slice A k c) (cs ++ ds) (ls ++ ms) := by
  have hblk : ∀ b, base ≤ b ∧ b < w.heap.size ∧ v.ownBlock ≠ some b → base ≤ b ∧ b < w'.heap.size ∧ (Value.slice A k c).ownBlock ≠ some b := fun b hb => ⟨hb.1, Nat.lt_of_lt_of_le hb.2.1 hg.size, fun e => by
    rcases ho with ho | ho
    · rw [ho] at e; exact hb.2.2 e
    · rw [ho] at e; cases e; omega⟩
  subst hk
  have hlen := h.len
  refine ⟨?_, by rw [List.length_append, List.length_append, h.len, hx.1], fun i y hy => ?_⟩
  · rw [List.length_append, List.flatMap_append]
    exact hr
  · rcases Nat.lt_or_ge i cs.length with hi | hi
    · rw [List.getElem?_append_left hi] at hy
      have h1 := ((h.bods i y hy).grown hg (fun b hb e => hb.2.2 e.symm)).more hblk
      rw [List.getD_eq_getElem?_getD, List.getElem?_append_left (by rw [← h.len]; exact hi), ← List.getD_eq_getElem?_getD]
      exact h1
    · rw [List.getElem?_append_right hi] at hy
      rw [List.getD_eq_getElem?_getD, List.getElem?_append_right (by rw [← h.len]; exact hi), ← h.len, ← List.getD_eq_getElem?_getD]
      exact ((hx.2 _ y hy).grown hg (fun b hb e => hb.2.2 e.symm)).more hblk
/-- what is appended: nothing, or rows that lie somewhere -/
def RowsX (w : World) (A : Option Addr) (ds : List CV) : Prop := (A = none ∧ ds = []) ∨ ∃ ad B, A = some ad ∧ 0 < ds.length ∧ Row w B (some ad) (ds.flatMap crow)
theorem crows_one (ds : List CV) : ∀ u ∈ ds.flatMap crow, u.oneCell' = true := fun u hu => by
  obtain ⟨x, _, hx⟩ := List.mem_flatMap.1 hu
  exact crow_one x u hx
theorem ChOwn.rowsX {A : Option Addr} {n c : Nat} (h : ChOwn w base (.slice A n c) cs ls) : RowsX w A cs ∨ (∃ ad, A = some ad ∧ cs = []) := by
  obtain ⟨A', c', e, h1, h2, h3⟩ := h.rows
  cases e
  by_cases h0 : cs.length = 0
  · have : cs = [] := List.eq_nil_of_length_eq_zero h0
    cases A with
    | none => exact .inl (.inl ⟨rfl, this⟩)
    | some ad => exact .inr ⟨ad, rfl, this⟩
  · obtain ⟨x, hx⟩ : ∃ x, cs[0]? = some x := ⟨_, List.getElem?_eq_getElem (by omega)⟩
    obtain ⟨a, ha, _⟩ := h3 0 (.int .i64 x.k) (by
      rw [List.getElem?_eq_some_iff] at hx
      obtain ⟨hx1, hx2⟩ := hx
      cases cs with
      | nil => exact absurd rfl h0
      | cons y ys => simp at hx2; subst hx2; rfl)
    exact .inl (.inr ⟨a, w.heap.size, ha, by omega, by rw [← ha]; exact h3⟩)
theorem ChOwn.nilc {A : Option Addr} {n c : Nat} (h : ChOwn w base (.slice A n c) cs ls) (hA : A = none) : c = 0 := by
  rcases h.row.2 with ⟨hv, h0⟩ | ⟨g, cap, cur, hv, _⟩
  · obtain ⟨_, _, e⟩ := Value.slice.inj hv; exact e
  · obtain ⟨e, _, _⟩ := Value.slice.inj hv; rw [hA] at e; cases e
theorem ChOwn.rowsX_of {A : Option Addr} {n c : Nat} (h : ChOwn w base (.slice A n c) cs ls) (h0 : cs.length = 0 → A = none) : RowsX w A cs := by
  rcases h.rowsX with h1 | ⟨ad, h1, h2⟩
  · exact h1
  · exact .inl ⟨h0 (by rw [h2]; rfl), h2⟩
theorem run_app_chs {A : Option Addr} {n c : Nat} (h : ChOwn w base (.slice A n c) cs ls) (hn : cs.length = n) {A2 : Option Addr} {m c2 : Nat} (hm : ds.length = m) (hx : RowsX w A2 ds) (hb : BodS w (fun b => base ≤ b ∧ b < w.heap.size ∧ (Value.slice A n c).ownBlock ≠ some b) ds ms) (hnm : n + m ≤ 1000) (hbase : base ≤ w.heap.size) (hc2 : A2 = none → c2 = 0) (ty : TypeId) :
    ∃ A' c' w', (Builtin.append_ #[22, 22] ty #[.slice A n c, .slice A2 m c2]).run Try.prog w = .ok (.slice A' (n + m) c') w' ∧ ChOwn w' base (.slice A' (n + m) c') (cs ++ ds) (ls ++ ms) ∧ w.grownBy w' (Value.slice A n c).ownBlock ∧ ((Value.slice A' (n + m) c').ownBlock = (Value.slice A n c).ownBlock ∨ (Value.slice A' (n + m) c').ownBlock = some w.heap.size) := by
  subst hn
  subst hm
  rcases hx with ⟨rfl, rfl⟩ | ⟨ad, B, rfl, h0, hr⟩
  · obtain ⟨ti, z, hi, hz, _⟩ := rowC.hi
    have hms : ms = [] := List.eq_nil_of_length_eq_zero hb.1.symm
    subst hms
    rw [hc2 rfl]
    have hle : cs.length ≤ c := by
      rcases h.row.2 with ⟨hv, h0⟩ | ⟨g, cap, cur, hv, _, _, hn, _⟩
      · obtain ⟨_, _, rfl⟩ := Value.slice.inj hv; omega
      · obtain ⟨_, _, rfl⟩ := Value.slice.inj hv; exact hn
    refine ⟨A, c, w, run_append_nothing w 22 22 ty 46 ti rowC.ht hi A cs.length c hle _ (Go.Src.ofNil w rowC.ht 0), ?_, World.grownBy.refl w _, .inl rfl⟩
    rw [List.append_nil, List.append_nil]
    exact h
  · obtain ⟨A', c', w', h1, h2, h3, h4⟩ := run_app_row rowC (by decide) ty h.row ad ds.length c2 (ds.flatMap crow) (crows_length ds) h0 B hr (crows_one ds) (by omega) (by decide) hbase
    exact ⟨A', c', w', h1, h.appends hb h2 rfl h3 h4, h3, h4⟩
theorem wpl_app_chs {ops : Array Oper} {rest : List Oper} {o : Oper} {a : Act} {Q : Exit → Act → World → Prop} (hgd : Region.wanted o (yielded ops a.tmps) = true) (s x : Operand)
    (ho : o.op = .call { callee := .builtin .append, args := #[s, x], argTypes := #[22, 22] }) {A : Option Addr} {n c : Nat} (hv : a.eval s = .slice A n c)
    (h : ChOwn w base (.slice A n c) cs ls) (hn : cs.length = n) {A2 : Option Addr} {m c2 : Nat} (hxv : a.eval x = .slice A2 m c2) (hm : ds.length = m) (hx : RowsX w A2 ds) (hb : BodS w (fun b => base ≤ b ∧ b < w.heap.size ∧ (Value.slice A n c).ownBlock ≠ some b) ds ms) (hnm : n + m ≤ 1000) (hbase : base ≤ w.heap.size) (hc2 : A2 = none → c2 = 0) (k : Nat) (hk : n + m = k)
    (hQ : ∀ A' c' w', ChOwn w' base (.slice A' k c') (cs ++ ds) (ls ++ ms) → w.grownBy w' (Value.slice A n c).ownBlock → ((Value.slice A' k c').ownBlock = (Value.slice A n c).ownBlock ∨ (Value.slice A' k c').ownBlock = some w.heap.size) → wpList Try.prog ops Q rest (a.put o.dst (.slice A' k c')) w') :
    wpList Try.prog ops Q (o :: rest) a w := by
  subst hk
  obtain ⟨A', c', w', hrun, h2, h3, h4⟩ := run_app_chs h hn hm hx hb hnm hbase hc2 o.type
  refine BigFrame.wpList_want hgd fun K hK => ?_
  unfold Oper.wp execOp
  simp only [ho, resolve, invoke, builtin, Sem.run_bind, Sem.run_pure, Result.andThen_ok, List.map_toArray, List.map_cons, List.map_nil, hv, hxv, hrun]
  exact hK _ _ (hQ A' c' w' h2 h3 h4)
theorem step_app_chs {ops : Array Oper} {o : Oper} {a : Act} {K : Act → World → Prop} {Q : Exit → Act → World → Prop} {E : Prop} (hgd : Region.wanted o (yielded ops a.tmps) = true) (s x : Operand)
    (ho : o.op = .call { callee := .builtin .append, args := #[s, x], argTypes := #[22, 22] }) {A : Option Addr} {n c : Nat} (hv : a.eval s = .slice A n c)
    (h : ChOwn w base (.slice A n c) cs ls) (hn : cs.length = n) {A2 : Option Addr} {m c2 : Nat} (hxv : a.eval x = .slice A2 m c2) (hm : ds.length = m) (hx : RowsX w A2 ds) (hb : BodS w (fun b => base ≤ b ∧ b < w.heap.size ∧ (Value.slice A n c).ownBlock ≠ some b) ds ms) (hnm : n + m ≤ 1000) (hbase : base ≤ w.heap.size) (hc2 : A2 = none → c2 = 0) (k : Nat) (hk : n + m = k)
    (hQ : ∀ A' c' w', ChOwn w' base (.slice A' k c') (cs ++ ds) (ls ++ ms) → w.grownBy w' (Value.slice A n c).ownBlock → ((Value.slice A' k c').ownBlock = (Value.slice A n c).ownBlock ∨ (Value.slice A' k c').ownBlock = some w.heap.size) → K (a.put o.dst (.slice A' k c')) w') :
    if Region.wanted o (yielded ops a.tmps) = true then Oper.wp Try.prog o a w K Q else E := by
  rw [if_pos hgd]
  subst hk
  obtain ⟨A', c', w', hrun, h2, h3, h4⟩ := run_app_chs h hn hm hx hb hnm hbase hc2 o.type
  unfold Oper.wp execOp
  simp only [ho, resolve, invoke, builtin, Sem.run_bind, Sem.run_pure, Result.andThen_ok, List.map_toArray, List.map_cons, List.map_nil, hv, hxv, hrun]
  exact hQ A' c' w' h2 h3 h4
end
/-- one change, as an append sees it -/
theorem rowsX_one (w : World) (x : CV) : RowsX (w.alloc (.cells #[.int .i64 x.k, .bool x.g, .slice x.A x.n x.c] 46)) (some ⟨w.heap.size, 0, none⟩) [x] :=
  .inr ⟨_, w.heap.size + 1, rfl, by simp, by
    rw [List.flatMap_cons, List.flatMap_nil, List.append_nil]
    exact row_one w x _ (Nat.lt_succ_self _)⟩
theorem bodS_one {w : World} {S : Nat → Prop} {x : CV} {l : List UInt8} (h : BytesS w S (.slice x.A x.n x.c) l) : BodS w S [x] [l] := ⟨rfl, fun i y hy => by
  cases i with
  | zero => cases hy; exact h
  | succ i => cases hy⟩
theorem bytesS_none (w : World) (S : Nat → Prop) : BytesS w S (.slice none 0 0) [] := ⟨none, 0, rfl, Nat.le_refl _, Nat.zero_le _, fun j u hu => by simp [bv] at hu⟩
end Go.Proofs.Ytppodbijdhcclaa

/- gone and put of file. Condition: the cache tells inodes; of put also what the new bytes are. -/
namespace Go.Proofs.Ytppodbijdhcclaa
open Go Go.RowKit
def goneC (n : Int) (a m : Nat) : CL := (List.range' a m).map (fun (k : Nat) => (8 * n + (k : Int), none))
theorem goneC_zero (n : Int) (a : Nat) : goneC n a 0 = [] := rfl
theorem goneC_succ (n : Int) (a m : Nat) : goneC n a (m + 1) = goneC n a m ++ [(8 * n + ((a + m : Nat) : Int), none)] := by
  unfold goneC
  rw [List.range'_concat, List.map_append, Nat.one_mul]
  rfl
theorem saysC.nil : saysC [] [] [] := ⟨rfl, rfl⟩
set_option maxRecDepth 100000 in
set_option maxHeartbeats 4000000 in
theorem gone_any (n : Int) (a b : Nat) (w : World) (hn : 1 ≤ n ∧ n ≤ 24) (ha : a ≤ 8) (hb : b ≤ 6) :
    Calls Try.prog 55 #[.int .i64 n, .int .i64 (a : Int), .int .i64 (b : Int)] w fun e w' => ∃ A c m, Hid (m = b + 1 - a ∧ (m = 0 → A = none)) ∧ e = .returned (.slice A m c) ∧ ∃ cs ls, ChOwn w' w.heap.size (.slice A m c) cs ls ∧ saysC cs ls (goneC n a m) ∧ Below w.heap.size w w' := by
  have KK := Lib.hid (fun (k : Nat) w (hk : k ≤ 6) => show Calls Try.prog 61 #[.int .i64 n, .int .i64 (k : Int)] w fun e w' => e = .returned (.int .i64 (8 * n + (k : Int))) ∧ w = w' by
    have := key_any n (k : Int) w
    rw [show keyOf n (k : Int) = 8 * n + (k : Int) by unfold keyOf; rw [if_pos (by omega)]] at this
    exact this)
  go_enter Try.func55, Try.ntmps55
  go_wp2_with fail
  go_loopw [7, 8] (fun v k wr => ∃ (j : Nat) (A : Option Addr) (c : Nat) (cs : List CV) (ls : List (List UInt8)), j ≤ b + 1 - a ∧ v = .slice A j c ∧ k = .int .i64 ((a + j : Nat) : Int) ∧ Hid (j = 0 → A = none) ∧ Hid (ChOwn wr w.heap.size (.slice A j c) cs ls) ∧ Hid (saysC cs ls (goneC n a j)) ∧ Hid (Below w.heap.size w wr)) (fun _ k _ => 16 - (intOf k).toNat)
  case atStart => exact ⟨0, none, 0, [], [], Nat.zero_le _, rfl, rfl, Lib.hid (fun _ => rfl), Lib.hid (ChOwn.nil _ _), Lib.hid saysC.nil, Lib.hid (Below.refl _ _)⟩
  case round =>
    obtain ⟨j, A, c, cs, ls, hj, rfl, rfl, hZ, hO, hS, hT⟩ := hrel
    by_cases hlt : a + j ≤ b
    · have d1 : ((a + j : Nat) : Int) ≤ (b : Int) := by omega
      obtain ⟨q, hq⟩ : ∃ q, q = a + j := ⟨_, rfl⟩
      have HQ := Lib.hid hq
      have KQ := Lib.hid (KK.out q wr (by omega))
      rw [← hq] at d1 ⊢
      have q15 : q ≤ 6 := by omega
      have hj9 : j ≤ 9 := by omega
      clear hq
      have HLN : Hid (cs.length = j) := Lib.hid (by rw [hS.out.len.1]; unfold goneC; rw [List.length_map, List.length_range'])
      obtain ⟨ky, hky⟩ : ∃ ky : Int, ky = 8 * n + (q : Int) := ⟨_, rfl⟩
      have HKY := Lib.hid hky
      rw [← hky] at KQ
      clear hky
      have B2 := Lib.hid ((Below.refl wr.heap.size wr).alloc (Nat.le_refl _) (.cells #[.int .i64 ky, .bool true, .slice none 0 0] 46))
      have O2 := Lib.hid (hO.out.below B2.out)
      have T2 := Lib.hid (hT.out.trans (B2.out.mono hT.out.size))
      have R2 := Lib.hid (rowsX_one wr ⟨ky, true, none, 0, 0⟩)
      have S2 := Lib.hid (hS.out.snoc ⟨ky, true, none, 0, 0⟩ [] (8 * n + (q : Int), none) HKY.out rfl rfl)
      rw [HQ.out, ← goneC_succ] at S2
      go_wp2_with (first
        | (go_at_call 61; (with_reducible refine KQ.out.mono ?_); rintro e w2 ⟨rfl, rfl⟩)
        | (at_builtin; go_loud (refine wpl_app_chs rfl (.tmp 15) (.tmp 20) rfl rfl O2.out HLN.out rfl rfl R2.out (bodS_one (bytesS_none _ _)) (by omega) T2.out.size (fun e => by cases e) (j + 1) rfl ?_); intro A4 c4 w4 O4 g4 _))
      exact ⟨⟨j + 1, A4, c4, _, _, by omega, rfl, by rw [HQ.out]; go_num, Lib.hid (fun e => by cases e), Lib.hid O4, S2, Lib.hid (T2.out.grown g4 T2.out.size (fun b e => (World.ownsRow.lt O2.out.row b e).1))⟩, by rw [HQ.out]; simp [intOf]; omega⟩
    · obtain rfl : j = b + 1 - a := by omega
      have d1 : ¬ ((a + (b + 1 - a) : Nat) : Int) ≤ (b : Int) := by omega
      obtain ⟨m, hm⟩ : ∃ m, m = b + 1 - a := ⟨_, rfl⟩
      rw [← hm] at hO hS hZ d1 ⊢
      have HM := Lib.hid hm
      obtain ⟨q, hq⟩ : ∃ q, q = a + m := ⟨_, rfl⟩
      rw [← hq] at d1 ⊢
      clear hq hm
      go_wp2_with fail
      go_ret
      exact ⟨A, c, m, Lib.hid ⟨HM.out, hZ.out⟩, rfl, cs, ls, hO.out, hS.out, hT.out⟩
end Go.Proofs.Ytppodbijdhcclaa

/- The changes by which a file's bytes become others, plainly. No condition. -/
namespace Go.Proofs.Ytppodbijdhcclaa
open Go Go.RowKit
def numC (s : Nat) : Nat := (s + 127) / 128
def chunkC (n : Int) (new : List UInt8) (a m : Nat) : CL := (List.range' a m).map (fun (k : Nat) => (8 * n + (k : Int), some (chunkL new (k - 1))))
theorem chunkC_succ (n : Int) (new : List UInt8) (a m : Nat) : chunkC n new a (m + 1) = chunkC n new a m ++ [(8 * n + ((a + m : Nat) : Int), some (chunkL new (a + m - 1)))] := by
  unfold chunkC
  rw [List.range'_concat, List.map_append, Nat.one_mul]
  rfl
def headC (n : Int) (new : List UInt8) (was : Nat) : CL := if new.length = was then [] else [(8 * n, some (FI.head (.file new)))]
def putC (n : Int) (new : List UInt8) (a b was : Nat) : CL := chunkC n new a (b + 1 - a) ++ goneC n (numC new.length + 1) (numC was + 1 - (numC new.length + 1)) ++ headC n new was
theorem mem_chunkC {n : Int} {new : List UInt8} {a m : Nat} {x : Int × Option (List UInt8)} (h : x ∈ chunkC n new a m) : ∃ k : Nat, a ≤ k ∧ k < a + m ∧ x = (8 * n + (k : Int), some (chunkL new (k - 1))) := by
  unfold chunkC at h
  obtain ⟨k, hk, rfl⟩ := List.mem_map.1 h
  rw [List.mem_range'_1] at hk
  exact ⟨k, hk.1, hk.2, rfl⟩
theorem mem_goneC {n : Int} {a m : Nat} {x : Int × Option (List UInt8)} (h : x ∈ goneC n a m) : ∃ k : Nat, a ≤ k ∧ k < a + m ∧ x = (8 * n + (k : Int), none) := by
  unfold goneC at h
  obtain ⟨k, hk, rfl⟩ := List.mem_map.1 h
  rw [List.mem_range'_1] at hk
  exact ⟨k, hk.1, hk.2, rfl⟩
theorem mem_headC {n : Int} {new : List UInt8} {was : Nat} {x : Int × Option (List UInt8)} (h : x ∈ headC n new was) : new.length ≠ was ∧ x = (8 * n, some (FI.head (.file new))) := by
  unfold headC at h
  split at h
  · cases h
  · rename_i h1
    exact ⟨h1, by simpa using h⟩
theorem chunkC_in {n : Int} {new : List UInt8} {a m k : Nat} (h1 : a ≤ k) (h2 : k < a + m) : (8 * n + (k : Int), some (chunkL new (k - 1))) ∈ chunkC n new a m := by
  unfold chunkC
  exact List.mem_map.2 ⟨k, by rw [List.mem_range'_1]; exact ⟨h1, h2⟩, rfl⟩
theorem goneC_in {n : Int} {a m k : Nat} (h1 : a ≤ k) (h2 : k < a + m) : ((8 * n + (k : Int), none) : Int × Option (List UInt8)) ∈ goneC n a m := by
  unfold goneC
  exact List.mem_map.2 ⟨k, by rw [List.mem_range'_1]; exact ⟨h1, h2⟩, rfl⟩
theorem mem_putC {n : Int} {new : List UInt8} {a b was : Nat} {x : Int × Option (List UInt8)} (h : x ∈ putC n new a b was) :
    (∃ k : Nat, a ≤ k ∧ k ≤ b ∧ x = (8 * n + (k : Int), some (chunkL new (k - 1)))) ∨ (∃ k : Nat, numC new.length + 1 ≤ k ∧ k ≤ numC was ∧ x = (8 * n + (k : Int), none)) ∨ (new.length ≠ was ∧ x = (8 * n, some (FI.head (.file new)))) := by
  unfold putC at h
  rcases List.mem_append.1 h with h | h
  · rcases List.mem_append.1 h with h | h
    · obtain ⟨k, h1, h2, h3⟩ := mem_chunkC h
      exact .inl ⟨k, h1, by omega, h3⟩
    · obtain ⟨k, h1, h2, h3⟩ := mem_goneC h
      exact .inr (.inl ⟨k, h1, by omega, h3⟩)
  · exact .inr (.inr (mem_headC h))
theorem keys_range (n : Int) (g : Nat → Option (List UInt8)) : ∀ m a, ((List.range' a m).map (fun (k : Nat) => ((8 * n + (k : Int), g k) : Int × Option (List UInt8)))).Pairwise (fun x y => x.1 ≠ y.1)
  | 0, _ => List.Pairwise.nil
  | m + 1, a => by
    rw [List.range'_succ, List.map_cons, List.pairwise_cons]
    refine ⟨fun y hy => ?_, keys_range n g m (a + 1)⟩
    obtain ⟨k, hk, rfl⟩ := List.mem_map.1 hy
    rw [List.mem_range'_1] at hk
    dsimp only
    omega
theorem putC_good {n : Int} (hn : 1 ≤ n ∧ n ≤ 24) {new : List UInt8} {a b was : Nat} (ha : 1 ≤ a) (hb : b ≤ numC new.length) (hl : new.length ≤ 768) (hw : was ≤ 768) : (putC n new a b was).good := by
  have h6 : numC new.length ≤ 6 := by unfold numC; omega
  have h7 : numC was ≤ 6 := by unfold numC; omega
  refine ⟨?_, fun x hx => ?_⟩
  · unfold putC
    refine List.pairwise_append.2 ⟨List.pairwise_append.2 ⟨keys_range n _ _ _, keys_range n (fun _ => none) _ _, fun x hx y hy => ?_⟩, ?_, fun x hx y hy => ?_⟩
    · obtain ⟨k, h1, h2, rfl⟩ := mem_chunkC hx
      obtain ⟨j, h3, h4, rfl⟩ := mem_goneC hy
      dsimp only
      omega
    · unfold headC
      split
      · exact List.Pairwise.nil
      · exact List.pairwise_singleton _ _
    · obtain ⟨_, rfl⟩ := mem_headC hy
      rcases List.mem_append.1 hx with hx | hx
      · obtain ⟨k, h1, h2, rfl⟩ := mem_chunkC hx
        dsimp only
        omega
      · obtain ⟨j, h3, h4, rfl⟩ := mem_goneC hx
        dsimp only
        omega
  · rcases mem_putC hx with ⟨k, h1, h2, rfl⟩ | ⟨k, h1, h2, rfl⟩ | ⟨_, rfl⟩
    · refine ⟨by dsimp only; omega, fun c hc => ?_⟩
      cases hc
      rw [chunkL_len]
      omega
    · exact ⟨by dsimp only; omega, fun c hc => by cases hc⟩
    · refine ⟨by dsimp only; omega, fun c hc => ?_⟩
      cases hc
      have := FI.head_len (.file new)
      omega
theorem putC_len (n : Int) (new : List UInt8) (a b was : Nat) (ha : 1 ≤ a) (hb : b ≤ 6) (hw : was ≤ 768) : (putC n new a b was).length ≤ 20 := by
  have h7 : numC was ≤ 6 := by unfold numC; omega
  have h1 : (headC n new was).length ≤ 1 := by
    unfold headC
    split <;> simp
  unfold putC chunkC goneC
  rw [List.length_append, List.length_append, List.length_map, List.length_map, List.length_range', List.length_range']
  omega
theorem node_file_chunk (l : List UInt8) {k : Nat} (hk : 1 ≤ k) : FI.node (.file l) k = if k ≤ 6 ∧ 128 * (k - 1) < l.length then some (chunkL l (k - 1)) else none := by
  unfold FI.node
  rw [if_neg (by omega)]
/-- they lead to the file of the new bytes -/
theorem putC_apply {F : FS} (h : F.ok) {n : Int} {l new : List UInt8} {a b : Nat} (hF : F n = some (.file l)) (hl : new.length ≤ 768) (ha : 1 ≤ a) (hb : b ≤ numC new.length)
    (hs : ∀ k, 1 ≤ k → (k < a ∨ b < k) → 128 * (k - 1) < new.length → 128 * (k - 1) < l.length ∧ chunkL new (k - 1) = chunkL l (k - 1)) :
    ∀ z, applyC F.node (putC n new a b l.length) z = (F.put n (some (.file new))).node z := by
  have hl2 : l.length ≤ 768 := (h n _ hF).2 l rfl
  have h6 : numC new.length ≤ 6 := by unfold numC; omega
  refine applyC_of _ _ (fun x hx => ?_) (fun z hz => ?_)
  · rcases mem_putC hx with ⟨k, h1, h2, rfl⟩ | ⟨k, h1, h2, rfl⟩ | ⟨_, rfl⟩
    · dsimp only
      rw [FS.node_near _ _ _ _ (by omega), node_file_chunk _ (by omega), if_pos ⟨by omega, by unfold numC at hb; omega⟩]
    · dsimp only
      rw [FS.node_near _ _ _ _ (by unfold numC at h2; omega), node_file_chunk _ (by omega), if_neg (by unfold numC at h1; omega)]
    · dsimp only
      have := FS.node_near F n (.file new) 0 (by omega)
      rw [show 8 * n + ((0 : Nat) : Int) = 8 * n by omega] at this
      exact this
  · by_cases hzn : z / 8 = n
    · obtain ⟨j, hj, rfl⟩ : ∃ j : Nat, j < 8 ∧ z = 8 * n + (j : Int) := ⟨(z % 8).toNat, by omega, by omega⟩
      rw [FS.node_near _ _ _ _ hj, FS.node_key _ _ _ hj, hF]
      dsimp only
      by_cases h0 : j = 0
      · subst h0
        show some (FI.head (.file l)) = some (FI.head (.file new))
        by_cases he : new.length = l.length
        · unfold FI.head; dsimp only; rw [he]
        · exfalso
          refine hz (8 * n, some (FI.head (.file new))) ?_ (by dsimp only; omega)
          unfold putC headC
          rw [if_neg he]
          exact List.mem_append_right _ (.head _)
      · rw [node_file_chunk _ (by omega), node_file_chunk _ (by omega)]
        by_cases hc : a ≤ j ∧ j ≤ b
        · exfalso
          refine hz (8 * n + (j : Int), some (chunkL new (j - 1))) ?_ rfl
          unfold putC
          exact List.mem_append_left _ (List.mem_append_left _ (chunkC_in hc.1 (by omega)))
        · by_cases hg : numC new.length + 1 ≤ j ∧ j ≤ numC l.length
          · exfalso
            refine hz (8 * n + (j : Int), none) ?_ rfl
            unfold putC
            exact List.mem_append_left _ (List.mem_append_right _ (goneC_in hg.1 (by omega)))
          · by_cases hjn : j ≤ 6 ∧ 128 * (j - 1) < new.length
            · obtain ⟨e1, e2⟩ := hs j (by omega) (by omega) hjn.2
              rw [if_pos hjn, if_pos ⟨hjn.1, e1⟩, e2]
            · rw [if_neg hjn, if_neg (by unfold numC at hg; omega)]
    · rw [FS.node_far _ _ _ hzn]
end Go.Proofs.Ytppodbijdhcclaa

