/- Several texts of the proof, joined: what each has is said at its head. -/
import Derived.Test.YtppodbijdhcclaaQCacheJA
import Derived.Test.YtppodbijdhcclaaQFilePut
/- slices.Clone of bytes. No condition. -/
namespace Go.Proofs.Ytppodbijdhcclaa
open Go Go.RowKit
set_option maxRecDepth 100000 in
set_option maxHeartbeats 4000000 in
theorem sclone_any (v : Value) (l : List UInt8) (w : World) (hv : Bytes w w.heap.size v l) (hl : l.length ≤ 100000) :
    Calls Try.prog 51 #[v] w fun e w' => ∃ A c, e = .returned (.slice A l.length c) ∧ Own 5 w' w.heap.size (.slice A l.length c) l ∧ Below w.heap.size w w' := by
  obtain ⟨A, c, rfl, hc, hm, hr⟩ := hv
  obtain ⟨n, hn⟩ : ∃ n, l.length = n := ⟨_, rfl⟩
  have HN := Lib.hid hn
  rw [hn] at hc hl ⊢
  clear hn
  cases A with
  | none =>
    have h0 : l = [] := by
      cases l with
      | nil => rfl
      | cons x r => obtain ⟨a, e, _⟩ := hr 0 _ rfl; cases e
    subst h0
    obtain rfl : n = 0 := HN.out.symm
    clear hr
    have he := nil_none c
    go_enter Try.func51, Try.ntmps51
    go_wp2_with fail
    go_ret
    exact ⟨none, 0, rfl, Own.empty, Below.refl _ _⟩
  | some a =>
    have O0 := Lib.hid (Own.made (e := 5) (w := w) (base := w.heap.size) #[] 0 (Nat.le_refl _) (by simp [maxLen]) rfl w.heap.size rfl)
    have B0 := Lib.hid ((Below.refl w.heap.size w).alloc (Nat.le_refl _) (.cells #[] 5))
    have HR := Lib.hid (hr.below B0.out)
    have he := nil_some a n c
    clear hr
    go_enter Try.func51, Try.ntmps51
    go_wp2_with (at_builtin; go_loud (refine wpl_append_bytes byteTys rfl (.tmp 5) (.tmp 6) rfl rfl O0.out w.heap.size (.slice (some a) n c) l rfl ⟨some a, c, by rw [HN.out], by rw [HN.out]; exact hc, hm, HR.out⟩ (by simp only [List.length_nil]; have := HN.out; omega) (by simp) n (by simp [HN.out]) ?_); intro A7 c7 w7 O7 g7 h7; have HO := Lib.hid O7; have HG := Lib.hid g7; clear O7 g7 h7)
    go_ret
    exact ⟨A7, c7, rfl, HO.out, B0.out.trans HG.out⟩
end Go.Proofs.Ytppodbijdhcclaa

/- Read of file. Condition: the cache tells inodes. -/
namespace Go.Proofs.Ytppodbijdhcclaa
open Go Go.RowKit
theorem enters_read : ∀ (args : Array Value) (w : World), (callFunc 49 args).run Try.prog w = .ok (.enter 49 args) w := fun _ _ => by kernel_rfl
theorem needR_any (g g1 g2 : Nat) (s a b k : Nat) (w : World) (hf : w.cell? ⟨g, 2, none⟩ = some (.int .i64 (s : Int))) (ha : w.cell? ⟨g1, 0, none⟩ = some (.int .i64 (a : Int))) (hb : w.cell? ⟨g2, 0, none⟩ = some (.int .i64 (b : Int))) (hk : 1 ≤ k ∧ k ≤ 7) (hs : s ≤ 768) (ha7 : a ≤ 768) (hb7 : b ≤ 768) :
    Calls Try.prog 49 #[.int .i64 (k : Int), .pointer (some ⟨g, 0, none⟩), .pointer (some ⟨g1, 0, none⟩), .pointer (some ⟨g2, 0, none⟩)] w fun e w' => e = .returned (.bool (decide (0 < comN k s a b))) ∧ w = w' := by
  have KC := Lib.hid (common_any k s a b w hk hs ha7 hb7)
  obtain ⟨c, hc⟩ : ∃ c, c = comN k s a b := ⟨_, rfl⟩
  rw [← hc] at KC ⊢
  clear hc hk hs ha7 hb7
  go_enter Try.func49, Try.ntmps49
  go_wp2_with (go_at_call 50; (with_reducible refine KC.out.mono ?_); rintro e w2 ⟨rfl, rfl⟩)
  go_ret
  exact ⟨rfl, rfl⟩
set_option maxRecDepth 100000 in
set_option maxHeartbeats 8000000 in
theorem fread_file (i : CI) (N : Nat) (F : FS) (S : Nat → Prop) (n : Int) (l : List UInt8) (o m : Nat) (w : World) (h : FAt w i N F S) (hF : F n = some (.file l)) :
    Calls Try.prog 28 #[.pointer (some ⟨i.q, 0, none⟩), .int .i64 n, .int .i64 (o : Int), .int .i64 (m : Int)] w fun e w' => ∃ A c z, Hid (((l.drop o).take m).length = z) ∧ e = .returned (.tuple #[.slice A z c, .int .i64 0]) ∧ Own 5 w' w.heap.size (.slice A z c) ((l.drop o).take m) ∧ Below w.heap.size w w' := by
  have KO := Lib.hid (fopen_file i N F S n l w h hF)
  have hl : l.length ≤ 768 := (h.ok n _ hF).2 l rfl
  have HH := Lib.hid h
  have HHF := Lib.hid hF
  obtain ⟨sz, hsz⟩ : ∃ sz, sz = l.length := ⟨_, rfl⟩
  have HSZ := Lib.hid hsz
  rw [← hsz] at KO hl
  obtain ⟨fr, hfr⟩ : ∃ fr, fr = min o sz := ⟨_, rfl⟩
  obtain ⟨rr, hrr⟩ : ∃ rr, rr = sz - fr := ⟨_, rfl⟩
  obtain ⟨d, hd⟩ : ∃ d, d = min m rr := ⟨_, rfl⟩
  obtain ⟨te, hte⟩ : ∃ te, te = fr + d := ⟨_, rfl⟩
  have m1 : min (o : Int) (sz : Int) = (fr : Int) := by omega
  have m5 : (fr : Int) + min (m : Int) ((sz : Int) - (fr : Int)) = (te : Int) := by omega
  have hfs : fr ≤ sz := by omega
  have hts : te ≤ sz := by omega
  have hft : fr ≤ te := by omega
  have HD := Lib.hid (show fr = min o sz ∧ te - fr = min m (sz - fr) from ⟨hfr, by omega⟩)
  clear h hF hfr hrr hd hte hsz
  go_enter Try.func28, Try.ntmps28
  go_upto_region 8 with (first
    | (go_at_call 47; (with_reducible refine KO.out.mono ?_); rintro e w2 ⟨rfl, b2⟩; have BB2 := Lib.hid b2; clear b2))
  have b3 := BB2.out.alloc BB2.out.size (.cells #[.pointer (some ⟨i.q, 0, none⟩), .int .i64 n, .int .i64 (sz : Int)] 101)
  have b4 := b3.alloc b3.size (.cells #[.int .i64 (fr : Int)] 3)
  have T5 := Lib.hid (b4.alloc b4.size (.cells #[.int .i64 (te : Int)] 3))
  have X5 := Lib.hid (((Blk.new3c w2 (.pointer (some ⟨i.q, 0, none⟩)) (.int .i64 n) (.int .i64 (sz : Int)) 101).alloc (.cells #[.int .i64 (fr : Int)] 3)).alloc (.cells #[.int .i64 (te : Int)] 3))
  obtain ⟨W3, hW3⟩ : ∃ W3, W3 = w2.alloc (.cells #[.pointer (some ⟨i.q, 0, none⟩), .int .i64 n, .int .i64 (sz : Int)] 101) := ⟨_, rfl⟩
  rw [← hW3] at X5 T5 ⊢
  obtain ⟨g, hg⟩ : ∃ g, g = w2.heap.size := ⟨_, rfl⟩
  have hs3 : W3.heap.size = g + 1 := by rw [hW3, World.size_alloc, hg]
  have hs4 : (W3.alloc (.cells #[.int .i64 (fr : Int)] 3)).heap.size = g + 1 + 1 := by rw [World.size_alloc, hs3]
  have F5 : Hid (Blk ((W3.alloc (.cells #[.int .i64 (fr : Int)] 3)).alloc (.cells #[.int .i64 (te : Int)] 3)) (g + 1) 3 [.int .i64 (fr : Int)]) := Lib.hid (Blk.alloc (by rw [← hs3]; exact heap_alloc_new W3 _) _)
  have E5 : Hid (Blk ((W3.alloc (.cells #[.int .i64 (fr : Int)] 3)).alloc (.cells #[.int .i64 (te : Int)] 3)) (g + 1 + 1) 3 [.int .i64 (te : Int)]) := Lib.hid (by rw [← hs4]; exact heap_alloc_new _ _)
  rw [← hg] at X5 ⊢
  obtain ⟨W5, hW5⟩ : ∃ W5, W5 = (W3.alloc (.cells #[.int .i64 (fr : Int)] 3)).alloc (.cells #[.int .i64 (te : Int)] 3) := ⟨_, rfl⟩
  rw [← hW5] at X5 T5 F5 E5 ⊢
  clear hW5 hW3 hs3 hs4 hg b3 b4 BB2 KO m1 m5
  have KL := Lib.hid (load_any i N F S n l 49 #[.pointer (some ⟨g, 0, none⟩), .pointer (some ⟨g + 1, 0, none⟩), .pointer (some ⟨g + 1 + 1, 0, none⟩)] (fun k => decide (0 < comN k sz fr te)) W5 (HH.out.after T5.out) HHF.out enters_read (fun k W hk1 hk2 hb => needR_any g (g + 1) (g + 1 + 1) sz fr te k W ((X5.out.after hb).cell 2) ((F5.out.after hb).cell 0) ((E5.out.after hb).cell 0) ⟨hk1, by have := HSZ.out; omega⟩ hl (by omega) (by omega)))
  rw [← HSZ.out] at KL
  have x0 : W5.cell? ⟨g, 0, none⟩ = some (.pointer (some ⟨i.q, 0, none⟩)) := X5.out.cell 0
  have x1 : W5.cell? ⟨g, 1, none⟩ = some (.int .i64 n) := X5.out.cell 1
  have x2 : W5.cell? ⟨g, 2, none⟩ = some (.int .i64 (sz : Int)) := X5.out.cell 2
  have z0 := zeroT
  obtain ⟨L, hL⟩ : ∃ L, L = loadL l (fun k => decide (0 < comN k sz fr te)) 6 := ⟨_, rfl⟩
  rw [← hL] at KL
  have HLL := Lib.hid hL
  have HLN : Hid (L.length = 768) := Lib.hid (by rw [hL]; exact tab_length _)
  have HBL : Hid ((bv L).length = 768) := Lib.hid (by rw [bv_length]; exact HLN.out)
  have HNZ : Hid ((bv tz).length = 768) := Lib.hid (by rw [bv_length]; exact tab_length _)
  have HSG : Hid (segSet (bv tz) 0 (bv L) = bv L) := Lib.hid (segSet_all (by rw [HBL.out, HNZ.out]))
  have HIL : Hid (0 + 768 ≤ (bv tz).length) := Lib.hid (by rw [HNZ.out]; exact Nat.le_refl _)
  clear hL
  go_upto_region 11 with (first
    | (go_at_call 48; (with_reducible refine KL.out.mono ?_); rintro e w6 ⟨rfl, b6⟩; have T6 := Lib.hid ((T5.out.trans (b6.mono T5.out.size)).alloc (T5.out.trans (b6.mono T5.out.size)).size (.cells (cl tz) 105)); have F6 := Lib.hid ((F5.out.after b6).alloc (.cells (cl tz) 105)); have E6 := Lib.hid ((E5.out.after b6).alloc (.cells (cl tz) 105)); have A6 : Hid (Blk (w6.alloc (.cells (cl tz) 105)) w6.heap.size 105 (bv tz)) := Lib.hid (heap_alloc_new w6 _); have S6 : Hid (w.heap.size ≤ w6.heap.size) := Lib.hid (T5.out.trans (b6.mono T5.out.size)).size; have L6 := Lib.hid (F5.out.after b6).lt; have L6' := Lib.hid (E5.out.after b6).lt; clear b6 x0 x1 x2)
    | (refine wpl_seg_store sizeT (.tmp 14) (.tmp 46) rfl rfl A6.out 0 (bv L) HBL.out HIL.out (fun v hv => bv_one hv) rfl rfl _ HSG.out ?_; intro w7 A7' g7 e7; have A7 := Lib.hid A7'; have F7 := Lib.hid (F6.out.grown g7 (by simp only [ne_eq, Option.some.injEq]; have := L6.out; omega)); have E7 := Lib.hid (E6.out.grown g7 (by simp only [ne_eq, Option.some.injEq]; have := L6'.out; omega)); have T7 := Lib.hid (T6.out.grown g7 T6.out.size (fun q e => by cases e; exact S6.out)); clear A7' g7 e7 A6 F6 E6 T6))
  have HM : Hid ((L.drop fr).take (te - fr) = (l.drop o).take m ∧ ((l.drop o).take m).length = te - fr) := Lib.hid (by
    have hlen : ((l.drop o).take m).length = te - fr := by rw [List.length_take, List.length_drop, ← HSZ.out, HD.out.2, HD.out.1]; omega
    refine ⟨?_, hlen⟩
    rw [HLL.out]
    refine tab_part (by omega) hlen (fun b hb => ?_)
    have ho : fr = o := by have := HD.out; omega
    unfold loadF
    rw [if_pos ⟨by rw [← HSZ.out]; omega, by omega, decide_eq_true (by unfold comN endN begN; omega)⟩, List.getD_eq_getElem?_getD, List.getD_eq_getElem?_getD, List.getElem?_take, if_pos (by have := HD.out.2; omega), List.getElem?_drop, ho])
  obtain ⟨M, hM⟩ : ∃ M, M = (l.drop o).take m := ⟨_, rfl⟩
  rw [← hM] at HM
  have HMM := Lib.hid hM
  clear hM HLL KL
  have q0 : w7.cell? ⟨g + 1, 0, none⟩ = some (.int .i64 (fr : Int)) := F7.out.cell 0
  have q1 : w7.cell? ⟨g + 1 + 1, 0, none⟩ = some (.int .i64 (te : Int)) := E7.out.cell 0
  have q2 : (fr : Int) ≤ (te : Int) := by omega
  have q3 : (te : Int) ≤ 768 := by omega
  have BY : Hid (BytesS w7 (fun b => b = w6.heap.size) (.slice (some ⟨w6.heap.size, fr, none⟩) (te - fr) (768 - fr)) M) := Lib.hid (by
    have := blk_part A7.out fr (te - fr) (768 - fr) (by rw [HLN.out]; omega) (by omega) (by unfold maxLen; omega)
    rwa [HM.out.1] at this)
  have HA7 := Lib.hid A7.out.lt
  by_cases h768 : 768 = fr
  · have hM0 : M = [] := List.eq_nil_of_length_eq_zero (by rw [HM.out.2]; omega)
    have KC := Lib.hid (sclone_any (.slice (some ⟨w6.heap.size, 0, none⟩) 0 0) [] w7 ⟨_, 0, rfl, Nat.le_refl _, Nat.zero_le _, Row.nil⟩ (Nat.zero_le _))
    have ht : te = fr := by omega
    subst ht
    subst h768
    go_wp2_with (go_at_call 51; (with_reducible refine KC.out.mono ?_); rintro e w8 ⟨A8, c8, rfl, O8, b8⟩)
    go_ret2
    rw [← HMM.out, hM0]
    exact ⟨A8, c8, 0, Lib.hid rfl, rfl, O8.lower T7.out.size, T7.out.trans (b8.mono T7.out.size)⟩
  · obtain ⟨nn, hnn⟩ : ∃ nn, nn = te - fr := ⟨_, rfl⟩
    have HNN := Lib.hid hnn
    have KC := Lib.hid (sclone_any (.slice (some ⟨w6.heap.size, fr, none⟩) (te - fr) (768 - fr)) M w7 (BY.out.bytes (fun b hb => by rw [hb]; exact HA7.out)) (by rw [HM.out.2]; omega))
    rw [HM.out.2] at KC
    go_wp2_with (go_at_call 51; (with_reducible refine KC.out.mono ?_); rintro e w8 ⟨A8, c8, rfl, O8, b8⟩)
    go_ret2
    rw [← HMM.out]
    exact ⟨A8, c8, te - fr, Lib.hid HM.out.2, rfl, O8.lower T7.out.size, T7.out.trans (b8.mono T7.out.size)⟩
set_option maxRecDepth 100000 in
set_option maxHeartbeats 4000000 in
theorem fread_none (i : CI) (N : Nat) (F : FS) (S : Nat → Prop) (n o m : Int) (w : World) (h : FAt w i N F S) (hF : F n = none) :
    Calls Try.prog 28 #[.pointer (some ⟨i.q, 0, none⟩), .int .i64 n, .int .i64 o, .int .i64 m] w fun e w' => e = .returned (.tuple #[.slice none 0 0, .int .i64 61]) ∧ Below w.heap.size w w' := by
  have KO := Lib.hid (fopen_none i N F S n w h hF)
  clear h hF
  go_enter Try.func28, Try.ntmps28
  go_wp2_with (first
    | (go_at_call 47; (with_reducible refine KO.out.mono ?_); rintro e w2 ⟨rfl, b2⟩; have BB2 := Lib.hid b2; clear b2))
  all_goals
    go_ret2
    exact ⟨rfl, BB2.out.alloc BB2.out.size _⟩
set_option maxRecDepth 100000 in
set_option maxHeartbeats 4000000 in
theorem fread_dir (i : CI) (N : Nat) (F : FS) (S : Nat → Prop) (n o m : Int) (w : World) (h : FAt w i N F S) (hF : F n = some .dir) :
    Calls Try.prog 28 #[.pointer (some ⟨i.q, 0, none⟩), .int .i64 n, .int .i64 o, .int .i64 m] w fun e w' => e = .returned (.tuple #[.slice none 0 0, .int .i64 64]) ∧ Below w.heap.size w w' := by
  have KO := Lib.hid (fopen_dir i N F S n w h hF)
  clear h hF
  go_enter Try.func28, Try.ntmps28
  go_wp2_with (first
    | (go_at_call 47; (with_reducible refine KO.out.mono ?_); rintro e w2 ⟨rfl, b2⟩; have BB2 := Lib.hid b2; clear b2))
  all_goals
    go_ret2
    exact ⟨rfl, BB2.out.alloc BB2.out.size _⟩
set_option maxRecDepth 100000 in
set_option maxHeartbeats 4000000 in
theorem fread_arg (i : CI) (N : Nat) (F : FS) (S : Nat → Prop) (n o m : Int) (l : List UInt8) (w : World) (h : FAt w i N F S) (hF : F n = some (.file l)) (ha : o < 0 ∨ m < 0) :
    Calls Try.prog 28 #[.pointer (some ⟨i.q, 0, none⟩), .int .i64 n, .int .i64 o, .int .i64 m] w fun e w' => e = .returned (.tuple #[.slice none 0 0, .int .i64 1]) ∧ Below w.heap.size w w' := by
  have KO := Lib.hid (fopen_file i N F S n l w h hF)
  clear h hF
  by_cases ho : o < 0
  · have d1 : decide (o < 0) = true := decide_eq_true ho
    go_enter Try.func28, Try.ntmps28
    go_wp2_with (first
      | (go_at_call 47; (with_reducible refine KO.out.mono ?_); rintro e w2 ⟨rfl, b2⟩; have BB2 := Lib.hid b2; clear b2))
    go_ret2
    exact ⟨rfl, BB2.out.alloc BB2.out.size _⟩
  · have hm : m < 0 := by omega
    have d1 : decide (o < 0) = false := decide_eq_false ho
    have d2 : decide (m < 0) = true := decide_eq_true hm
    clear ha
    go_enter Try.func28, Try.ntmps28
    go_wp2_with (first
      | (go_at_call 47; (with_reducible refine KO.out.mono ?_); rintro e w2 ⟨rfl, b2⟩; have BB2 := Lib.hid b2; clear b2))
    go_ret2
    exact ⟨rfl, BB2.out.alloc BB2.out.size _⟩
end Go.Proofs.Ytppodbijdhcclaa

