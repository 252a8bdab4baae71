/- Several texts of the proof, joined: what each has is said at its head. -/
import Derived.Test.YtppodbijdhcclaaQFileJC
import Derived.Test.YtppodbijdhcclaaQFileWr
import Derived.Test.YtppodbijdhcclaaQFilePut
/- The refusals of Write and Truncate of file, and what they make without a change. Condition: the cache tells inodes. -/
namespace Go.Proofs.Ytppodbijdhcclaa
open Go Go.RowKit
set_option maxRecDepth 100000 in
set_option maxHeartbeats 4000000 in
theorem fwrite_none (i : CI) (N : Nat) (F : FS) (S : Nat → Prop) (n : Int) (o : Int) (v : Value) (w : World) (h : FAt w i N F S) (hF : F n = none) :
    Calls Try.prog 33 #[.pointer (some ⟨i.q, 0, none⟩), .int .i64 n, .int .i64 o, v] w fun e w' => e = .returned (.int .i64 61) ∧ Below w.heap.size w w' := by
  have b0 := Lib.hid ((Below.refl w.heap.size w).alloc (Nat.le_refl _) (.cells #[.int .i64 o] 3))
  have O0 : Hid (Blk (w.alloc (.cells #[.int .i64 o] 3)) w.heap.size 3 [.int .i64 o]) := Lib.hid (heap_alloc_new w _)
  have KO := Lib.hid (fopen_none i N F S n _ (h.after b0.out) hF)
  clear h hF
  go_enter Try.func33, Try.ntmps33
  go_upto_region 2 with (first
    | (go_at_call 47; (with_reducible refine KO.out.mono ?_); rintro e w2 ⟨rfl, b2⟩; have BB2 := Lib.hid (b0.out.trans (b2.mono b0.out.size)); have O2 := Lib.hid (O0.out.after b2); clear b2))
  have T3 := Lib.hid (BB2.out.alloc BB2.out.size (.cells #[.pointer none, .int .i64 0, .int .i64 0] 101))
  have X3 := Lib.hid (Blk.new3c w2 (.pointer none) (.int .i64 0) (.int .i64 0) 101)
  have O3 := Lib.hid (O2.out.alloc (.cells #[.pointer none, .int .i64 0, .int .i64 0] 101))
  obtain ⟨W3, hW3⟩ : ∃ W3, W3 = w2.alloc (.cells #[.pointer none, .int .i64 0, .int .i64 0] 101) := ⟨_, rfl⟩
  rw [← hW3] at T3 X3 O3 ⊢
  clear hW3 BB2 O2 KO b0 O0
  have c0 : W3.cell? ⟨w.heap.size, 0, none⟩ = some (.int .i64 o) := O3.out.cell 0
  have c2 : W3.cell? ⟨w2.heap.size, 2, none⟩ = some (.int .i64 0) := X3.out.cell 2
  go_wp2_with fail
  go_ret
  exact ⟨rfl, T3.out⟩
set_option maxRecDepth 100000 in
set_option maxHeartbeats 4000000 in
theorem fwrite_dir (i : CI) (N : Nat) (F : FS) (S : Nat → Prop) (n : Int) (o : Int) (v : Value) (w : World) (h : FAt w i N F S) (hF : F n = some .dir) :
    Calls Try.prog 33 #[.pointer (some ⟨i.q, 0, none⟩), .int .i64 n, .int .i64 o, v] w fun e w' => e = .returned (.int .i64 64) ∧ Below w.heap.size w w' := by
  have b0 := Lib.hid ((Below.refl w.heap.size w).alloc (Nat.le_refl _) (.cells #[.int .i64 o] 3))
  have O0 : Hid (Blk (w.alloc (.cells #[.int .i64 o] 3)) w.heap.size 3 [.int .i64 o]) := Lib.hid (heap_alloc_new w _)
  have KO := Lib.hid (fopen_dir i N F S n _ (h.after b0.out) hF)
  clear h hF
  go_enter Try.func33, Try.ntmps33
  go_upto_region 2 with (first
    | (go_at_call 47; (with_reducible refine KO.out.mono ?_); rintro e w2 ⟨rfl, b2⟩; have BB2 := Lib.hid (b0.out.trans (b2.mono b0.out.size)); have O2 := Lib.hid (O0.out.after b2); clear b2))
  have T3 := Lib.hid (BB2.out.alloc BB2.out.size (.cells #[.pointer none, .int .i64 0, .int .i64 0] 101))
  have X3 := Lib.hid (Blk.new3c w2 (.pointer none) (.int .i64 0) (.int .i64 0) 101)
  have O3 := Lib.hid (O2.out.alloc (.cells #[.pointer none, .int .i64 0, .int .i64 0] 101))
  obtain ⟨W3, hW3⟩ : ∃ W3, W3 = w2.alloc (.cells #[.pointer none, .int .i64 0, .int .i64 0] 101) := ⟨_, rfl⟩
  rw [← hW3] at T3 X3 O3 ⊢
  clear hW3 BB2 O2 KO b0 O0
  have c0 : W3.cell? ⟨w.heap.size, 0, none⟩ = some (.int .i64 o) := O3.out.cell 0
  have c2 : W3.cell? ⟨w2.heap.size, 2, none⟩ = some (.int .i64 0) := X3.out.cell 2
  go_wp2_with fail
  go_ret
  exact ⟨rfl, T3.out⟩
set_option maxRecDepth 100000 in
set_option maxHeartbeats 4000000 in
theorem fwrite_arg (i : CI) (N : Nat) (F : FS) (S : Nat → Prop) (n : Int) (l : List UInt8) (o : Int) (v : Value) (w : World) (h : FAt w i N F S) (hF : F n = some (.file l)) (ho : o < 0) :
    Calls Try.prog 33 #[.pointer (some ⟨i.q, 0, none⟩), .int .i64 n, .int .i64 o, v] w fun e w' => e = .returned (.int .i64 1) ∧ Below w.heap.size w w' := by
  have b0 := Lib.hid ((Below.refl w.heap.size w).alloc (Nat.le_refl _) (.cells #[.int .i64 o] 3))
  have O0 : Hid (Blk (w.alloc (.cells #[.int .i64 o] 3)) w.heap.size 3 [.int .i64 o]) := Lib.hid (heap_alloc_new w _)
  have KO := Lib.hid (fopen_file i N F S n l _ (h.after b0.out) hF)
  clear h hF
  have d1 : decide (o < 0) = true := decide_eq_true ho
  go_enter Try.func33, Try.ntmps33
  go_upto_region 2 with (first
    | (go_at_call 47; (with_reducible refine KO.out.mono ?_); rintro e w2 ⟨rfl, b2⟩; have BB2 := Lib.hid (b0.out.trans (b2.mono b0.out.size)); have O2 := Lib.hid (O0.out.after b2); clear b2))
  have T3 := Lib.hid (BB2.out.alloc BB2.out.size (.cells #[.pointer (some ⟨i.q, 0, none⟩), .int .i64 n, .int .i64 (l.length : Int)] 101))
  have X3 := Lib.hid (Blk.new3c w2 (.pointer (some ⟨i.q, 0, none⟩)) (.int .i64 n) (.int .i64 (l.length : Int)) 101)
  have O3 := Lib.hid (O2.out.alloc (.cells #[.pointer (some ⟨i.q, 0, none⟩), .int .i64 n, .int .i64 (l.length : Int)] 101))
  obtain ⟨W3, hW3⟩ : ∃ W3, W3 = w2.alloc (.cells #[.pointer (some ⟨i.q, 0, none⟩), .int .i64 n, .int .i64 (l.length : Int)] 101) := ⟨_, rfl⟩
  rw [← hW3] at T3 X3 O3 ⊢
  clear hW3 BB2 O2 KO b0 O0
  have c0 : W3.cell? ⟨w.heap.size, 0, none⟩ = some (.int .i64 o) := O3.out.cell 0
  have c2 : W3.cell? ⟨w2.heap.size, 2, none⟩ = some (.int .i64 (l.length : Int)) := X3.out.cell 2
  go_wp2_with fail
  go_ret
  exact ⟨rfl, T3.out⟩
set_option maxRecDepth 100000 in
set_option maxHeartbeats 4000000 in
theorem fwrite_nil (i : CI) (N : Nat) (F : FS) (S : Nat → Prop) (n : Int) (l : List UInt8) (o : Int) (A : Option Addr) (c : Nat) (w : World) (h : FAt w i N F S) (hF : F n = some (.file l)) (ho : ¬ o < 0) :
    Calls Try.prog 33 #[.pointer (some ⟨i.q, 0, none⟩), .int .i64 n, .int .i64 o, .slice A 0 c] w fun e w' => e = .returned (.int .i64 0) ∧ Below w.heap.size w w' := by
  have b0 := Lib.hid ((Below.refl w.heap.size w).alloc (Nat.le_refl _) (.cells #[.int .i64 o] 3))
  have O0 : Hid (Blk (w.alloc (.cells #[.int .i64 o] 3)) w.heap.size 3 [.int .i64 o]) := Lib.hid (heap_alloc_new w _)
  have KO := Lib.hid (fopen_file i N F S n l _ (h.after b0.out) hF)
  clear h hF
  have d1 : decide (o < 0) = false := decide_eq_false ho
  go_enter Try.func33, Try.ntmps33
  go_upto_region 2 with (first
    | (go_at_call 47; (with_reducible refine KO.out.mono ?_); rintro e w2 ⟨rfl, b2⟩; have BB2 := Lib.hid (b0.out.trans (b2.mono b0.out.size)); have O2 := Lib.hid (O0.out.after b2); clear b2))
  have T3 := Lib.hid (BB2.out.alloc BB2.out.size (.cells #[.pointer (some ⟨i.q, 0, none⟩), .int .i64 n, .int .i64 (l.length : Int)] 101))
  have X3 := Lib.hid (Blk.new3c w2 (.pointer (some ⟨i.q, 0, none⟩)) (.int .i64 n) (.int .i64 (l.length : Int)) 101)
  have O3 := Lib.hid (O2.out.alloc (.cells #[.pointer (some ⟨i.q, 0, none⟩), .int .i64 n, .int .i64 (l.length : Int)] 101))
  obtain ⟨W3, hW3⟩ : ∃ W3, W3 = w2.alloc (.cells #[.pointer (some ⟨i.q, 0, none⟩), .int .i64 n, .int .i64 (l.length : Int)] 101) := ⟨_, rfl⟩
  rw [← hW3] at T3 X3 O3 ⊢
  clear hW3 BB2 O2 KO b0 O0
  have c0 : W3.cell? ⟨w.heap.size, 0, none⟩ = some (.int .i64 o) := O3.out.cell 0
  have c2 : W3.cell? ⟨w2.heap.size, 2, none⟩ = some (.int .i64 (l.length : Int)) := X3.out.cell 2
  go_wp2_with fail
  go_ret
  exact ⟨rfl, T3.out⟩
set_option maxRecDepth 100000 in
set_option maxHeartbeats 4000000 in
theorem fwrite_big (i : CI) (N : Nat) (F : FS) (S : Nat → Prop) (n : Int) (l : List UInt8) (o : Int) (A : Option Addr) (d c : Nat) (w : World) (h : FAt w i N F S) (hF : F n = some (.file l)) (ho : ¬ o < 0) (hd : 0 < d ∧ d ≤ 100000) (hb : 768 < o + (d : Int)) :
    Calls Try.prog 33 #[.pointer (some ⟨i.q, 0, none⟩), .int .i64 n, .int .i64 o, .slice A d c] w fun e w' => e = .returned (.int .i64 68) ∧ Below w.heap.size w w' := by
  have b0 := Lib.hid ((Below.refl w.heap.size w).alloc (Nat.le_refl _) (.cells #[.int .i64 o] 3))
  have O0 : Hid (Blk (w.alloc (.cells #[.int .i64 o] 3)) w.heap.size 3 [.int .i64 o]) := Lib.hid (heap_alloc_new w _)
  have KO := Lib.hid (fopen_file i N F S n l _ (h.after b0.out) hF)
  clear h hF
  have d1 : decide (o < 0) = false := decide_eq_false ho
  have d2 : ¬ (d : Int) = 0 := by omega
  have d2b : ((d : Int) == 0) = false := by simp; omega
  have d3 : 768 - (d : Int) < o := by omega
  have d3b : decide (768 - (d : Int) < o) = true := decide_eq_true d3
  go_enter Try.func33, Try.ntmps33
  go_upto_region 2 with (first
    | (go_at_call 47; (with_reducible refine KO.out.mono ?_); rintro e w2 ⟨rfl, b2⟩; have BB2 := Lib.hid (b0.out.trans (b2.mono b0.out.size)); have O2 := Lib.hid (O0.out.after b2); clear b2))
  have T3 := Lib.hid (BB2.out.alloc BB2.out.size (.cells #[.pointer (some ⟨i.q, 0, none⟩), .int .i64 n, .int .i64 (l.length : Int)] 101))
  have X3 := Lib.hid (Blk.new3c w2 (.pointer (some ⟨i.q, 0, none⟩)) (.int .i64 n) (.int .i64 (l.length : Int)) 101)
  have O3 := Lib.hid (O2.out.alloc (.cells #[.pointer (some ⟨i.q, 0, none⟩), .int .i64 n, .int .i64 (l.length : Int)] 101))
  obtain ⟨W3, hW3⟩ : ∃ W3, W3 = w2.alloc (.cells #[.pointer (some ⟨i.q, 0, none⟩), .int .i64 n, .int .i64 (l.length : Int)] 101) := ⟨_, rfl⟩
  rw [← hW3] at T3 X3 O3 ⊢
  clear hW3 BB2 O2 KO b0 O0
  have c0 : W3.cell? ⟨w.heap.size, 0, none⟩ = some (.int .i64 o) := O3.out.cell 0
  have c2 : W3.cell? ⟨w2.heap.size, 2, none⟩ = some (.int .i64 (l.length : Int)) := X3.out.cell 2
  go_wp2_with fail
  go_ret
  exact ⟨rfl, T3.out⟩
set_option maxRecDepth 100000 in
set_option maxHeartbeats 4000000 in
theorem ftrunc_none (i : CI) (N : Nat) (F : FS) (S : Nat → Prop) (n : Int) (o : Int) (w : World) (h : FAt w i N F S) (hF : F n = none) :
    Calls Try.prog 32 #[.pointer (some ⟨i.q, 0, none⟩), .int .i64 n, .int .i64 o] w fun e w' => e = .returned (.int .i64 61) ∧ Below w.heap.size w w' := by
  have b0 := Lib.hid ((Below.refl w.heap.size w).alloc (Nat.le_refl _) (.cells #[.int .i64 o] 3))
  have O0 : Hid (Blk (w.alloc (.cells #[.int .i64 o] 3)) w.heap.size 3 [.int .i64 o]) := Lib.hid (heap_alloc_new w _)
  have KO := Lib.hid (fopen_none i N F S n _ (h.after b0.out) hF)
  clear h hF
  go_enter Try.func32, Try.ntmps32
  go_upto_region 2 with (first
    | (go_at_call 47; (with_reducible refine KO.out.mono ?_); rintro e w2 ⟨rfl, b2⟩; have BB2 := Lib.hid (b0.out.trans (b2.mono b0.out.size)); have O2 := Lib.hid (O0.out.after b2); clear b2))
  have T3 := Lib.hid (BB2.out.alloc BB2.out.size (.cells #[.pointer none, .int .i64 0, .int .i64 0] 101))
  have X3 := Lib.hid (Blk.new3c w2 (.pointer none) (.int .i64 0) (.int .i64 0) 101)
  have O3 := Lib.hid (O2.out.alloc (.cells #[.pointer none, .int .i64 0, .int .i64 0] 101))
  obtain ⟨W3, hW3⟩ : ∃ W3, W3 = w2.alloc (.cells #[.pointer none, .int .i64 0, .int .i64 0] 101) := ⟨_, rfl⟩
  rw [← hW3] at T3 X3 O3 ⊢
  clear hW3 BB2 O2 KO b0 O0
  have c0 : W3.cell? ⟨w.heap.size, 0, none⟩ = some (.int .i64 o) := O3.out.cell 0
  have c2 : W3.cell? ⟨w2.heap.size, 2, none⟩ = some (.int .i64 0) := X3.out.cell 2
  go_wp2_with fail
  go_ret
  exact ⟨rfl, T3.out⟩
set_option maxRecDepth 100000 in
set_option maxHeartbeats 4000000 in
theorem ftrunc_dir (i : CI) (N : Nat) (F : FS) (S : Nat → Prop) (n : Int) (o : Int) (w : World) (h : FAt w i N F S) (hF : F n = some .dir) :
    Calls Try.prog 32 #[.pointer (some ⟨i.q, 0, none⟩), .int .i64 n, .int .i64 o] w fun e w' => e = .returned (.int .i64 64) ∧ Below w.heap.size w w' := by
  have b0 := Lib.hid ((Below.refl w.heap.size w).alloc (Nat.le_refl _) (.cells #[.int .i64 o] 3))
  have O0 : Hid (Blk (w.alloc (.cells #[.int .i64 o] 3)) w.heap.size 3 [.int .i64 o]) := Lib.hid (heap_alloc_new w _)
  have KO := Lib.hid (fopen_dir i N F S n _ (h.after b0.out) hF)
  clear h hF
  go_enter Try.func32, Try.ntmps32
  go_upto_region 2 with (first
    | (go_at_call 47; (with_reducible refine KO.out.mono ?_); rintro e w2 ⟨rfl, b2⟩; have BB2 := Lib.hid (b0.out.trans (b2.mono b0.out.size)); have O2 := Lib.hid (O0.out.after b2); clear b2))
  have T3 := Lib.hid (BB2.out.alloc BB2.out.size (.cells #[.pointer none, .int .i64 0, .int .i64 0] 101))
  have X3 := Lib.hid (Blk.new3c w2 (.pointer none) (.int .i64 0) (.int .i64 0) 101)
  have O3 := Lib.hid (O2.out.alloc (.cells #[.pointer none, .int .i64 0, .int .i64 0] 101))
  obtain ⟨W3, hW3⟩ : ∃ W3, W3 = w2.alloc (.cells #[.pointer none, .int .i64 0, .int .i64 0] 101) := ⟨_, rfl⟩
  rw [← hW3] at T3 X3 O3 ⊢
  clear hW3 BB2 O2 KO b0 O0
  have c0 : W3.cell? ⟨w.heap.size, 0, none⟩ = some (.int .i64 o) := O3.out.cell 0
  have c2 : W3.cell? ⟨w2.heap.size, 2, none⟩ = some (.int .i64 0) := X3.out.cell 2
  go_wp2_with fail
  go_ret
  exact ⟨rfl, T3.out⟩
set_option maxRecDepth 100000 in
set_option maxHeartbeats 4000000 in
theorem ftrunc_arg (i : CI) (N : Nat) (F : FS) (S : Nat → Prop) (n : Int) (l : List UInt8) (o : Int) (w : World) (h : FAt w i N F S) (hF : F n = some (.file l)) (ho : o < 0) :
    Calls Try.prog 32 #[.pointer (some ⟨i.q, 0, none⟩), .int .i64 n, .int .i64 o] w fun e w' => e = .returned (.int .i64 1) ∧ Below w.heap.size w w' := by
  have b0 := Lib.hid ((Below.refl w.heap.size w).alloc (Nat.le_refl _) (.cells #[.int .i64 o] 3))
  have O0 : Hid (Blk (w.alloc (.cells #[.int .i64 o] 3)) w.heap.size 3 [.int .i64 o]) := Lib.hid (heap_alloc_new w _)
  have KO := Lib.hid (fopen_file i N F S n l _ (h.after b0.out) hF)
  clear h hF
  have d1 : decide (o < 0) = true := decide_eq_true ho
  go_enter Try.func32, Try.ntmps32
  go_upto_region 2 with (first
    | (go_at_call 47; (with_reducible refine KO.out.mono ?_); rintro e w2 ⟨rfl, b2⟩; have BB2 := Lib.hid (b0.out.trans (b2.mono b0.out.size)); have O2 := Lib.hid (O0.out.after b2); clear b2))
  have T3 := Lib.hid (BB2.out.alloc BB2.out.size (.cells #[.pointer (some ⟨i.q, 0, none⟩), .int .i64 n, .int .i64 (l.length : Int)] 101))
  have X3 := Lib.hid (Blk.new3c w2 (.pointer (some ⟨i.q, 0, none⟩)) (.int .i64 n) (.int .i64 (l.length : Int)) 101)
  have O3 := Lib.hid (O2.out.alloc (.cells #[.pointer (some ⟨i.q, 0, none⟩), .int .i64 n, .int .i64 (l.length : Int)] 101))
  obtain ⟨W3, hW3⟩ : ∃ W3, W3 = w2.alloc (.cells #[.pointer (some ⟨i.q, 0, none⟩), .int .i64 n, .int .i64 (l.length : Int)] 101) := ⟨_, rfl⟩
  rw [← hW3] at T3 X3 O3 ⊢
  clear hW3 BB2 O2 KO b0 O0
  have c0 : W3.cell? ⟨w.heap.size, 0, none⟩ = some (.int .i64 o) := O3.out.cell 0
  have c2 : W3.cell? ⟨w2.heap.size, 2, none⟩ = some (.int .i64 (l.length : Int)) := X3.out.cell 2
  go_wp2_with fail
  go_ret
  exact ⟨rfl, T3.out⟩
set_option maxRecDepth 100000 in
set_option maxHeartbeats 4000000 in
theorem ftrunc_big (i : CI) (N : Nat) (F : FS) (S : Nat → Prop) (n : Int) (l : List UInt8) (o : Int) (w : World) (h : FAt w i N F S) (hF : F n = some (.file l)) (ho : 768 < o) :
    Calls Try.prog 32 #[.pointer (some ⟨i.q, 0, none⟩), .int .i64 n, .int .i64 o] w fun e w' => e = .returned (.int .i64 68) ∧ Below w.heap.size w w' := by
  have b0 := Lib.hid ((Below.refl w.heap.size w).alloc (Nat.le_refl _) (.cells #[.int .i64 o] 3))
  have O0 : Hid (Blk (w.alloc (.cells #[.int .i64 o] 3)) w.heap.size 3 [.int .i64 o]) := Lib.hid (heap_alloc_new w _)
  have KO := Lib.hid (fopen_file i N F S n l _ (h.after b0.out) hF)
  clear h hF
  have d1 : decide (o < 0) = false := decide_eq_false (by omega)
  have d2 : decide (768 < o) = true := decide_eq_true ho
  go_enter Try.func32, Try.ntmps32
  go_upto_region 2 with (first
    | (go_at_call 47; (with_reducible refine KO.out.mono ?_); rintro e w2 ⟨rfl, b2⟩; have BB2 := Lib.hid (b0.out.trans (b2.mono b0.out.size)); have O2 := Lib.hid (O0.out.after b2); clear b2))
  have T3 := Lib.hid (BB2.out.alloc BB2.out.size (.cells #[.pointer (some ⟨i.q, 0, none⟩), .int .i64 n, .int .i64 (l.length : Int)] 101))
  have X3 := Lib.hid (Blk.new3c w2 (.pointer (some ⟨i.q, 0, none⟩)) (.int .i64 n) (.int .i64 (l.length : Int)) 101)
  have O3 := Lib.hid (O2.out.alloc (.cells #[.pointer (some ⟨i.q, 0, none⟩), .int .i64 n, .int .i64 (l.length : Int)] 101))
  obtain ⟨W3, hW3⟩ : ∃ W3, W3 = w2.alloc (.cells #[.pointer (some ⟨i.q, 0, none⟩), .int .i64 n, .int .i64 (l.length : Int)] 101) := ⟨_, rfl⟩
  rw [← hW3] at T3 X3 O3 ⊢
  clear hW3 BB2 O2 KO b0 O0
  have c0 : W3.cell? ⟨w.heap.size, 0, none⟩ = some (.int .i64 o) := O3.out.cell 0
  have c2 : W3.cell? ⟨w2.heap.size, 2, none⟩ = some (.int .i64 (l.length : Int)) := X3.out.cell 2
  go_wp2_with fail
  go_ret
  exact ⟨rfl, T3.out⟩
set_option maxRecDepth 100000 in
set_option maxHeartbeats 4000000 in
theorem ftrunc_same (i : CI) (N : Nat) (F : FS) (S : Nat → Prop) (n : Int) (l : List UInt8) (o : Int) (w : World) (h : FAt w i N F S) (hF : F n = some (.file l)) (ho : o = (l.length : Int)) (hl : l.length ≤ 768) :
    Calls Try.prog 32 #[.pointer (some ⟨i.q, 0, none⟩), .int .i64 n, .int .i64 o] w fun e w' => e = .returned (.int .i64 0) ∧ Below w.heap.size w w' := by
  subst ho
  have b0 := Lib.hid ((Below.refl w.heap.size w).alloc (Nat.le_refl _) (.cells #[.int .i64 (l.length : Int)] 3))
  have O0 : Hid (Blk (w.alloc (.cells #[.int .i64 (l.length : Int)] 3)) w.heap.size 3 [.int .i64 (l.length : Int)]) := Lib.hid (heap_alloc_new w _)
  have KO := Lib.hid (fopen_file i N F S n l _ (h.after b0.out) hF)
  clear h hF
  have d1 : decide ((l.length : Int) < 0) = false := decide_eq_false (by omega)
  have d2 : decide (768 < (l.length : Int)) = false := decide_eq_false (by omega)
  go_enter Try.func32, Try.ntmps32
  go_upto_region 2 with (first
    | (go_at_call 47; (with_reducible refine KO.out.mono ?_); rintro e w2 ⟨rfl, b2⟩; have BB2 := Lib.hid (b0.out.trans (b2.mono b0.out.size)); have O2 := Lib.hid (O0.out.after b2); clear b2))
  have T3 := Lib.hid (BB2.out.alloc BB2.out.size (.cells #[.pointer (some ⟨i.q, 0, none⟩), .int .i64 n, .int .i64 (l.length : Int)] 101))
  have X3 := Lib.hid (Blk.new3c w2 (.pointer (some ⟨i.q, 0, none⟩)) (.int .i64 n) (.int .i64 (l.length : Int)) 101)
  have O3 := Lib.hid (O2.out.alloc (.cells #[.pointer (some ⟨i.q, 0, none⟩), .int .i64 n, .int .i64 (l.length : Int)] 101))
  obtain ⟨W3, hW3⟩ : ∃ W3, W3 = w2.alloc (.cells #[.pointer (some ⟨i.q, 0, none⟩), .int .i64 n, .int .i64 (l.length : Int)] 101) := ⟨_, rfl⟩
  rw [← hW3] at T3 X3 O3 ⊢
  clear hW3 BB2 O2 KO b0 O0
  have c0 : W3.cell? ⟨w.heap.size, 0, none⟩ = some (.int .i64 (l.length : Int)) := O3.out.cell 0
  have c2 : W3.cell? ⟨w2.heap.size, 2, none⟩ = some (.int .i64 (l.length : Int)) := X3.out.cell 2
  go_wp2_with fail
  go_ret
  exact ⟨rfl, T3.out⟩
end Go.Proofs.Ytppodbijdhcclaa

/- Truncate and Remove of file. Condition: the cache tells inodes. -/
namespace Go.Proofs.Ytppodbijdhcclaa
open Go Go.RowKit
theorem enters_trunc : ∀ (args : Array Value) (w : World), (callFunc 57 args).run Try.prog w = .ok (.enter 57 args) w := fun _ _ => by kernel_rfl
def needTB (k t s : Nat) : Bool := decide (0 < lenN k t) && decide (lenN k t ≠ lenN k s)
theorem needT_any (g1 g t s k : Nat) (w : World) (ht : w.cell? ⟨g1, 0, none⟩ = some (.int .i64 (t : Int))) (hf : w.cell? ⟨g, 2, none⟩ = some (.int .i64 (s : Int))) (hk : 1 ≤ k ∧ k ≤ 7) (hs : s ≤ 768) (ht7 : t ≤ 768) :
    Calls Try.prog 57 #[.int .i64 (k : Int), .pointer (some ⟨g1, 0, none⟩), .pointer (some ⟨g, 0, none⟩)] w fun e w' => e = .returned (.bool (needTB k t s)) ∧ w = w' := by
  have KT := Lib.hid (length_any k t w hk ht7)
  have KS := Lib.hid (length_any k s w hk hs)
  unfold needTB
  obtain ⟨c, hcc⟩ : ∃ c, c = lenN k t := ⟨_, rfl⟩
  obtain ⟨ln, hln⟩ : ∃ ln, ln = lenN k s := ⟨_, rfl⟩
  rw [← hcc] at KT ⊢
  rw [← hln] at KS ⊢
  clear hcc hln hk hs ht7
  go_enter Try.func57, Try.ntmps57
  go_wp2_with (first
    | (go_at_call 58; (with_reducible refine KT.out.mono ?_); rintro e w2 ⟨rfl, rfl⟩)
    | (go_at_call 58; (with_reducible refine KS.out.mono ?_); rintro e w2 ⟨rfl, rfl⟩))
  all_goals
    go_ret
    refine ⟨bool_ret ?_, rfl⟩
    rw [Bool.eq_iff_iff]
    simp
    try omega
/-- a file's bytes, so many -/
def truncL (l : List UInt8) (t : Nat) : List UInt8 := l.take t ++ List.replicate (t - l.length) 0
theorem truncL_len (l : List UInt8) (t : Nat) : (truncL l t).length = t := by
  unfold truncL
  rw [List.length_append, List.length_take, List.length_replicate]
  omega
theorem truncL_get (l : List UInt8) (t b : Nat) (hb : b < t) : (truncL l t).getD b 0 = l.getD b 0 := by
  rw [List.getD_eq_getElem?_getD, List.getD_eq_getElem?_getD]
  unfold truncL
  by_cases h : b < l.length
  · rw [List.getElem?_append_left (by rw [List.length_take]; omega), List.getElem?_take, if_pos hb]
  · rw [List.getElem?_append_right (by rw [List.length_take]; omega), List.getElem?_eq_none (l := l) (by omega), List.getElem?_replicate]
    split <;> rfl
theorem tr_new {l : List UInt8} {t : Nat} (hl : l.length ≤ 768) (ht : t ≠ l.length) : ∀ k, min t l.length / 128 + 1 ≤ k → k ≤ numC t → ∀ b, 128 * (k - 1) ≤ b → b < 128 * k → b < (truncL l t).length →
    loadF l (fun k => needTB k t l.length) 6 b = (truncL l t).getD b 0 := by
  intro k h1 h2 b h3 h4 h5
  rw [truncL_len] at h5
  rw [truncL_get l t b h5]
  unfold loadF
  by_cases hbl : b < l.length
  · have hk : b / 128 + 1 = k := by omega
    have hn : needTB k t l.length = true := by
      unfold needTB lenN endN begN
      rw [Bool.and_eq_true, decide_eq_true_eq, decide_eq_true_eq]
      by_cases htl : t < l.length
      · rw [Nat.min_eq_left (Nat.le_of_lt htl)] at h1
        omega
      · rw [Nat.min_eq_right (by omega)] at h1
        omega
    rw [if_pos ⟨hbl, by omega, by rw [hk]; exact hn⟩]
  · rw [if_neg (fun h => hbl h.1), List.getD_eq_getElem?_getD, List.getElem?_eq_none (by omega)]
    rfl
theorem tr_same {l : List UInt8} {t : Nat} : ∀ k, 1 ≤ k → (k < min t l.length / 128 + 1 ∨ numC t < k) → 128 * (k - 1) < (truncL l t).length → 128 * (k - 1) < l.length ∧ chunkL (truncL l t) (k - 1) = chunkL l (k - 1) := by
  intro k h1 h2 h3
  rw [truncL_len] at h3
  have hlen := truncL_len l t
  have h4 : 128 * (k - 1) + 128 ≤ min t l.length := by
    unfold numC at h2
    omega
  refine ⟨by omega, chunk_eq (by rw [hlen]; omega) (fun b hb1 hb2 => ?_)⟩
  exact truncL_get l t b (by omega)
set_option maxRecDepth 100000 in
set_option maxHeartbeats 8000000 in
theorem ftrunc_file (i : CI) (N : Nat) (F : FS) (S : Nat → Prop) (n : Int) (l : List UInt8) (o : Nat) (w : World) (h : FAt w i N F S) (hF : F n = some (.file l)) (hN : N ≤ 900000) (ho : o ≤ 768) (hne : o ≠ l.length) :
    Calls Try.prog 32 #[.pointer (some ⟨i.q, 0, none⟩), .int .i64 n, .int .i64 (o : Int)] w fun e w' => PutR w i N F (F.put n (some (.file (truncL l o)))) S e w' := by
  have b0 := Lib.hid ((Below.refl w.heap.size w).alloc (Nat.le_refl _) (.cells #[.int .i64 (o : Int)] 3))
  have O0 : Hid (Blk (w.alloc (.cells #[.int .i64 (o : Int)] 3)) w.heap.size 3 [.int .i64 (o : Int)]) := Lib.hid (heap_alloc_new w _)
  have KO := Lib.hid (fopen_file i N F S n l _ (h.after b0.out) hF)
  have hl : l.length ≤ 768 := (h.ok n _ hF).2 l rfl
  have HH := Lib.hid h
  have HHF := Lib.hid hF
  obtain ⟨sz, hsz⟩ : ∃ sz, sz = l.length := ⟨_, rfl⟩
  have HSZ := Lib.hid hsz
  rw [← hsz] at KO hl hne
  clear h hF hsz
  obtain ⟨go, hgo⟩ : ∃ go, go = w.heap.size := ⟨_, rfl⟩
  have HGO := Lib.hid hgo
  have d1 : ¬ (o : Int) = (sz : Int) := by omega
  have d1b : ((o : Int) == (sz : Int)) = false := by simp; omega
  go_enter Try.func32, Try.ntmps32
  go_upto_region 2 with (first
    | (go_at_call 47; (with_reducible refine KO.out.mono ?_); rintro e w2 ⟨rfl, b2⟩; have BB2 := Lib.hid (b0.out.trans (b2.mono b0.out.size)); have O2 := Lib.hid (O0.out.after b2); clear b2))
  have T3 := Lib.hid (BB2.out.alloc BB2.out.size (.cells #[.pointer (some ⟨i.q, 0, none⟩), .int .i64 n, .int .i64 (sz : Int)] 101))
  have X3 := Lib.hid (Blk.new3c w2 (.pointer (some ⟨i.q, 0, none⟩)) (.int .i64 n) (.int .i64 (sz : Int)) 101)
  have O3 := Lib.hid (O2.out.alloc (.cells #[.pointer (some ⟨i.q, 0, none⟩), .int .i64 n, .int .i64 (sz : Int)] 101))
  have LT := Lib.hid O2.out.lt
  obtain ⟨W3, hW3⟩ : ∃ W3, W3 = w2.alloc (.cells #[.pointer (some ⟨i.q, 0, none⟩), .int .i64 n, .int .i64 (sz : Int)] 101) := ⟨_, rfl⟩
  rw [← hW3] at T3 X3 O3 ⊢
  obtain ⟨g, hg⟩ : ∃ g, g = w2.heap.size := ⟨_, rfl⟩
  have HGL : Hid (go < g ∧ W3.heap.size = g + 1) := Lib.hid ⟨by rw [hgo, hg]; exact LT.out, by rw [hW3, World.size_alloc, hg]⟩
  rw [← hg] at X3 ⊢
  rw [← hgo] at O3 ⊢
  clear hW3 hg hgo O2 LT BB2 b0 O0 KO
  have c0 : W3.cell? ⟨go, 0, none⟩ = some (.int .i64 (o : Int)) := O3.out.cell 0
  have c2 : W3.cell? ⟨g, 2, none⟩ = some (.int .i64 (sz : Int)) := X3.out.cell 2
  go_upto_region 10 with fail
  have KL := Lib.hid (load_any i N F S n l 57 #[.pointer (some ⟨go, 0, none⟩), .pointer (some ⟨g, 0, none⟩)] (fun k => needTB k o sz) W3 (HH.out.after T3.out) HHF.out enters_trunc (fun k W hk1 hk2 hb => needT_any go g o sz k W ((O3.out.after hb).cell 0) ((X3.out.after hb).cell 2) ⟨hk1, by have := HSZ.out; omega⟩ hl ho))
  rw [← HSZ.out] at KL
  have x0 : W3.cell? ⟨g, 0, none⟩ = some (.pointer (some ⟨i.q, 0, none⟩)) := X3.out.cell 0
  have x1 : W3.cell? ⟨g, 1, none⟩ = some (.int .i64 n) := X3.out.cell 1
  have z0 := zeroT
  obtain ⟨L, hL⟩ : ∃ L, L = loadL l (fun k => needTB k o sz) 6 := ⟨_, rfl⟩
  rw [← hL] at KL
  have HLL := Lib.hid hL
  have HLN : Hid (L.length = 768) := Lib.hid (by rw [hL]; exact tab_length _)
  have HBL : Hid ((bv L).length = 768) := Lib.hid (by rw [bv_length]; exact HLN.out)
  have HNZ : Hid ((bv tz).length = 768) := Lib.hid (by rw [bv_length]; exact tab_length _)
  have HSG : Hid (segSet (bv tz) 0 (bv L) = bv L) := Lib.hid (segSet_all (by rw [HBL.out, HNZ.out]))
  have HIL : Hid (0 + 768 ≤ (bv tz).length) := Lib.hid (by rw [HNZ.out]; exact Nat.le_refl _)
  have HD : Hid (((bv L).drop 0).take 768 = bv L) := Lib.hid (by rw [List.drop_zero]; exact List.take_of_length_le (Nat.le_of_eq HBL.out))
  clear hL
  go_upto_region 13 with (first
    | (go_at_call 48; (with_reducible refine KL.out.mono ?_); rintro e w6 ⟨rfl, b6⟩; have S6 : Hid (w.heap.size ≤ w6.heap.size) := Lib.hid (T3.out.trans (b6.mono T3.out.size)).size; have T6 := Lib.hid ((T3.out.trans (b6.mono T3.out.size)).alloc (T3.out.trans (b6.mono T3.out.size)).size (.cells (cl tz) 105)); have O6 := Lib.hid ((O3.out.after b6).alloc (.cells (cl tz) 105)); have X6 := Lib.hid ((X3.out.after b6).alloc (.cells (cl tz) 105)); have A6 : Hid (Blk (w6.alloc (.cells (cl tz) 105)) w6.heap.size 105 (bv tz)) := Lib.hid (heap_alloc_new w6 _); have L6 : Hid (go < w6.heap.size ∧ g < w6.heap.size) := Lib.hid ⟨(O3.out.after b6).lt, (X3.out.after b6).lt⟩; clear b6 x0 x1 c0 c2 O3 X3 T3)
    | (refine wpl_seg_store sizeT (.tmp 9) (.tmp 35) rfl rfl A6.out 0 (bv L) HBL.out HIL.out (fun v hv => bv_one hv) rfl rfl _ HSG.out ?_; intro w8 A8' g8 e8; have A8 := Lib.hid A8'; have O8 := Lib.hid (O6.out.grown g8 (by simp only [ne_eq, Option.some.injEq]; have := L6.out; omega)); have X8 := Lib.hid (X6.out.grown g8 (by simp only [ne_eq, Option.some.injEq]; have := L6.out; omega)); have T8 := Lib.hid (T6.out.grown g8 T6.out.size (fun q e => by cases e; exact S6.out)); clear A8' g8 e8 A6 O6 X6 T6))
  obtain ⟨fr, hfr⟩ : ∃ fr, fr = min o sz := ⟨_, rfl⟩
  have m2 : min (o : Int) (sz : Int) = (fr : Int) := by omega
  have KP : Hid (Calls Try.prog 59 #[.agg #[.pointer (some ⟨i.q, 0, none⟩), .int .i64 n, .int .i64 (sz : Int)], .agg (cl L), .int .i64 (fr : Int), .int .i64 (o : Int), .int .i64 (o : Int)] w8 fun e w' => PutR w i N F (F.put n (some (.file (truncL l o)))) S e w') := Lib.hid (by
    have hl' : l.length ≤ 768 := by rw [← HSZ.out]; exact hl
    have hwl := truncL_len l o
    have := fput_any i N F S n l (truncL l o) (loadF l (fun k => needTB k o sz) 6) fr o w8 (HH.out.after T8.out) HHF.out hN (by rw [hwl]; exact ho) (by rw [hwl]; exact Nat.le_refl _) (by omega)
      (by rw [hfr, HSZ.out]; exact tr_new hl' (by rw [← HSZ.out]; exact hne)) (by rw [hfr, HSZ.out]; exact tr_same)
    rw [hwl, ← HSZ.out] at this
    rw [HLL.out]
    exact this.mono fun e w' hr => hr.lift T8.out)
  have y0 : w8.cell? ⟨g, 0, none⟩ = some (.pointer (some ⟨i.q, 0, none⟩)) := X8.out.cell 0
  have y1 : w8.cell? ⟨g, 1, none⟩ = some (.int .i64 n) := X8.out.cell 1
  have y2 : w8.cell? ⟨g, 2, none⟩ = some (.int .i64 (sz : Int)) := X8.out.cell 2
  have y3 : w8.cell? ⟨go, 0, none⟩ = some (.int .i64 (o : Int)) := O8.out.cell 0
  clear hfr HH HHF KL HLL
  go_wp2_with (first
    | (refine wpl_seg_load aggT sizeT (.tmp 9) rfl rfl A8.out 0 (bv L) HD.out HBL.out rfl ?_)
    | (go_at_call 59; (refine KP.out.mono ?_); rintro e w9 (⟨h1, rfl, h2⟩ | ⟨h1, rfl, h2⟩)))
  · go_ret
    exact .inl ⟨h1, rfl, h2⟩
  · go_ret
    exact .inr ⟨h1, rfl, h2⟩
end Go.Proofs.Ytppodbijdhcclaa

/- Remove of file. Condition: the cache tells inodes. -/
namespace Go.Proofs.Ytppodbijdhcclaa
open Go Go.RowKit
/-- how many bytes -/
def FI.len : FI → Nat
  | .dir => 0
  | .file l => l.length
theorem FI.ino_z (x : FI) : x.ino.z = (x.len : Int) := by cases x <;> rfl
theorem goneC_good {n : Int} (hn : 1 ≤ n ∧ n ≤ 24) {a m : Nat} (h : a + m ≤ 8) : (goneC n a m).good := by
  refine ⟨keys_range n (fun _ => none) _ _, fun x hx => ?_⟩
  obtain ⟨k, h1, h2, rfl⟩ := mem_goneC hx
  exact ⟨by dsimp only; omega, fun c hc => by cases hc⟩
theorem FS.node_off (F : FS) (n : Int) (j : Nat) (hj : j < 8) : (F.put n none).node (8 * n + (j : Int)) = none := by
  rw [FS.node_key _ _ _ hj]
  unfold FS.put
  rw [if_pos rfl]
theorem goneC_apply {F : FS} (h : F.ok) {n : Int} {x : FI} (hF : F n = some x) : ∀ z, applyC F.node (goneC n 0 (numC x.len + 1)) z = (F.put n none).node z := by
  have hl : x.len ≤ 768 := by
    cases x with
    | dir => exact Nat.zero_le _
    | file l => exact (h n _ hF).2 l rfl
  refine applyC_of _ _ (fun y hy => ?_) (fun z hz => ?_)
  · obtain ⟨k, h1, h2, rfl⟩ := mem_goneC hy
    exact FS.node_off F n k (by unfold numC at h2; omega)
  · by_cases hzn : z / 8 = n
    · obtain ⟨j, hj, rfl⟩ : ∃ j : Nat, j < 8 ∧ z = 8 * n + (j : Int) := ⟨(z % 8).toNat, by omega, by omega⟩
      have hjn : numC x.len + 1 ≤ j := by
        by_cases hc : numC x.len + 1 ≤ j
        · exact hc
        · exact absurd rfl (hz (8 * n + (j : Int), none) (goneC_in (Nat.zero_le _) (by omega)))
      rw [FS.node_off F n j hj, FS.node_key _ _ _ hj, hF]
      dsimp only
      cases x with
      | dir => unfold FI.node; rw [if_neg (by omega)]
      | file l =>
        rw [node_file_chunk _ (by omega), if_neg]
        intro h3
        unfold numC FI.len at hjn
        dsimp only at hjn
        omega
    · rw [FS.node_far _ _ _ hzn]
set_option maxRecDepth 100000 in
set_option maxHeartbeats 8000000 in
theorem fremove_none (i : CI) (N : Nat) (F : FS) (S : Nat → Prop) (n : Int) (w : World) (h : FAt w i N F S) (hF : F n = none) :
    Calls Try.prog 31 #[.pointer (some ⟨i.q, 0, none⟩), .int .i64 n] w fun e w' => e = .returned (.int .i64 61) ∧ Below w.heap.size w w' := by
  have KG := Lib.hid (fget_none i N F S n w h hF)
  clear h hF
  go_enter Try.func31, Try.ntmps31
  go_wp2_with (first
    | (go_at_call 35; (with_reducible refine KG.out.mono ?_); rintro e w2 ⟨rfl, b2⟩; have BB2 := Lib.hid b2; clear b2))
  go_ret
  exact ⟨rfl, BB2.out.alloc BB2.out.size _⟩
set_option maxRecDepth 100000 in
set_option maxHeartbeats 8000000 in
theorem fremove_some (i : CI) (N : Nat) (F : FS) (S : Nat → Prop) (n : Int) (x : FI) (w : World) (h : FAt w i N F S) (hF : F n = some x) (hN : N ≤ 900000) :
    Calls Try.prog 31 #[.pointer (some ⟨i.q, 0, none⟩), .int .i64 n] w fun e w' => PutR w i N F (F.put n none) S e w' := by
  have KG := Lib.hid (fget_some i N F S n x w h hF)
  have hn := (h.ok n _ hF).1
  have hl : x.len ≤ 768 := by
    cases x with
    | dir => exact Nat.zero_le _
    | file l => exact (h.ok n _ hF).2 l rfl
  have HA := Lib.hid (goneC_apply h.ok hF)
  have HOK := Lib.hid (FS.none_ok h.ok n)
  have HH := Lib.hid h
  have h6 : numC x.len ≤ 6 := by unfold numC; omega
  have HGD := Lib.hid (goneC_good hn (a := 0) (m := numC x.len + 1) (by omega))
  rw [FI.ino_z] at KG
  have KC : Hid (∀ w, Calls Try.prog 56 #[.int .i64 (x.len : Int)] w fun e w' => e = .returned (.int .i64 (numC x.len : Int)) ∧ w = w') := Lib.hid (fun w => by
    have := chunks_any (x.len : Int) (by omega) w
    rwa [chunks_num hl] at this)
  have KN : Hid (∀ w, Calls Try.prog 55 #[.int .i64 n, .int .i64 0, .int .i64 (numC x.len : Int)] w fun e w' => ∃ A c m, Hid (m = numC x.len + 1 - 0 ∧ (m = 0 → A = none)) ∧ e = .returned (.slice A m c) ∧ ∃ cs ls, ChOwn w' w.heap.size (.slice A m c) cs ls ∧ saysC cs ls (goneC n 0 m) ∧ Below w.heap.size w w') := Lib.hid (fun w => gone_any n 0 (numC x.len) w hn (by omega) h6)
  obtain ⟨ln, hln⟩ : ∃ ln : Nat, ln = x.len := ⟨_, rfl⟩
  obtain ⟨cn, hcn⟩ : ∃ cn, cn = numC ln := ⟨_, rfl⟩
  obtain ⟨K, hK⟩ : ∃ K, K = x.ino.k := ⟨_, rfl⟩
  rw [← hln] at KG KC KN HA HGD
  rw [← hcn] at KC KN HA HGD
  rw [← hK] at KG
  have hc6 : cn ≤ 6 := by rw [hcn, hln]; exact h6
  clear h hF hl h6 hln hcn hK
  go_enter Try.func31, Try.ntmps31
  go_upto_region 2 with (first
    | (go_at_call 35; (with_reducible refine KG.out.mono ?_); rintro e w2 ⟨Ai, ci, rfl, b2⟩; have BB2 := Lib.hid b2; clear b2))
  have T3 := Lib.hid (BB2.out.alloc BB2.out.size (.cells #[.int .i64 K, .int .i64 (ln : Int), .slice Ai 0 ci] 66))
  have X3 := Lib.hid (Blk.new3c w2 (.int .i64 K) (.int .i64 (ln : Int)) (.slice Ai 0 ci) 66)
  obtain ⟨W3, hW3⟩ : ∃ W3, W3 = w2.alloc (.cells #[.int .i64 K, .int .i64 (ln : Int), .slice Ai 0 ci] 66) := ⟨_, rfl⟩
  rw [← hW3] at T3 X3 ⊢
  clear hW3 BB2 KG
  have c1 : W3.cell? ⟨w2.heap.size, 1, none⟩ = some (.int .i64 (ln : Int)) := X3.out.cell 1
  go_upto_region 4 with fail
  go_wp2_with (first
    | (go_at_call 56; (with_reducible refine (KC.out _).mono ?_); rintro e w4 ⟨rfl, rfl⟩)
    | (go_at_call 55; (with_reducible refine (KN.out _).mono ?_); rintro e w5 ⟨A5, c5, m5, hm5, rfl, cs5, ls5, O5, S5, b5⟩; obtain rfl : m5 = cn + 1 := hm5.out.1; have T5 := Lib.hid (T3.out.trans (b5.mono T3.out.size)); have LC : Hid ((goneC n 0 (cn + 1)).length = cn + 1) := Lib.hid (by unfold goneC; rw [List.length_map, List.length_range']); have KP := Lib.hid (putR_of T5.out (by rw [LC.out]; omega) (put_fat i N F (F.put n none) S (.slice A5 (cn + 1) c5) cs5 ls5 _ w5 (HH.out.after T5.out) O5.rows ⟨O5.len, fun k x hx => (O5.bods k x hx).bytes (fun b hb => hb.2.1)⟩ S5 HGD.out (by rw [LC.out]; omega) (by omega) HA.out HOK.out)); clear hm5 O5 S5 b5)
    | (go_at_call 19; (refine KP.out.mono ?_); rintro e w9 (⟨h1, rfl, h2⟩ | ⟨h1, rfl, h2⟩)))
  · go_ret
    exact .inl ⟨h1, rfl, h2⟩
  · go_ret
    exact .inr ⟨h1, rfl, h2⟩
end Go.Proofs.Ytppodbijdhcclaa

