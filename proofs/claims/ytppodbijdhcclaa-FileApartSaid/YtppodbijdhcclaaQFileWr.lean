/- Write of file. Condition: the cache tells inodes. -/
import Derived.Test.YtppodbijdhcclaaQFileJC
import Derived.Deep.DeepCutAuto
namespace Go.Proofs.Ytppodbijdhcclaa
open Go Go.RowKit
theorem enters_write : ∀ (args : Array Value) (w : World), (callFunc 60 args).run Try.prog w = .ok (.enter 60 args) w := fun _ _ => by kernel_rfl
theorem bool_ret {a b : Bool} (h : a = b) : Ending.returned (.bool a) = .returned (.bool b) := by rw [h]
def needWB (k s a b la : Nat) : Bool := (decide (0 < comN k s a b) && decide (comN k s a b < lenN k s)) || (decide (k = la) && decide (s < b))
theorem needW_any (g g1 g2 g3 : Nat) (s a b la k : Nat) (w : World) (hf : w.cell? ⟨g, 2, none⟩ = some (.int .i64 (s : Int))) (ha : w.cell? ⟨g1, 0, none⟩ = some (.int .i64 (a : Int))) (hb : w.cell? ⟨g2, 0, none⟩ = some (.int .i64 (b : Int))) (hc : w.cell? ⟨g3, 0, none⟩ = some (.int .i64 (la : Int))) (hk : 1 ≤ k ∧ k ≤ 7) (hs : s ≤ 768) (ha7 : a ≤ 768) (hb7 : b ≤ 768) :
    Calls Try.prog 60 #[.int .i64 (k : Int), .pointer (some ⟨g, 0, none⟩), .pointer (some ⟨g1, 0, none⟩), .pointer (some ⟨g2, 0, none⟩), .pointer (some ⟨g3, 0, none⟩)] w fun e w' => e = .returned (.bool (needWB k s a b la)) ∧ w = w' := by
  have KC := Lib.hid (common_any k s a b w hk hs ha7 hb7)
  have KL := Lib.hid (length_any k s w hk hs)
  unfold needWB
  obtain ⟨c, hcc⟩ : ∃ c, c = comN k s a b := ⟨_, rfl⟩
  obtain ⟨ln, hln⟩ : ∃ ln, ln = lenN k s := ⟨_, rfl⟩
  rw [← hcc] at KC ⊢
  rw [← hln] at KL ⊢
  clear hcc hln hk hs ha7 hb7
  go_enter Try.func60, Try.ntmps60
  go_wp2_with (first
    | (go_at_call 50; (with_reducible refine KC.out.mono ?_); rintro e w2 ⟨rfl, rfl⟩)
    | (go_at_call 58; (with_reducible refine KL.out.mono ?_); rintro e w2 ⟨rfl, rfl⟩))
  all_goals
    go_ret
    refine ⟨bool_ret ?_, rfl⟩
    rw [Bool.eq_iff_iff]
    simp
    try omega
/-- a file's bytes with others in their place -/
def writeL (l : List UInt8) (o : Nat) (m : List UInt8) : List UInt8 := lay (l ++ List.replicate (o + m.length - l.length) 0) o m
theorem writeL_len (l : List UInt8) (o : Nat) (m : List UInt8) : (writeL l o m).length = max l.length (o + m.length) := by
  unfold writeL
  rw [lay_length (by rw [List.length_append, List.length_replicate]; omega), List.length_append, List.length_replicate]
  omega
theorem writeL_get (l : List UInt8) (o : Nat) (m : List UInt8) (b : Nat) : (writeL l o m).getD b 0 = if o ≤ b ∧ b < o + m.length then m.getD (b - o) 0 else l.getD b 0 := by
  rw [List.getD_eq_getElem?_getD, List.getD_eq_getElem?_getD, List.getD_eq_getElem?_getD]
  unfold writeL
  rw [lay_get (by rw [List.length_append, List.length_replicate]; omega)]
  by_cases h : o ≤ b ∧ b < o + m.length
  · rw [if_pos h, if_pos h]
  · rw [if_neg h, if_neg h]
    by_cases hb : b < l.length
    · rw [List.getElem?_append_left hb]
    · rw [List.getElem?_append_right (by omega), List.getElem?_eq_none (l := l) (by omega), List.getElem?_replicate]
      split <;> rfl
theorem PutR.lift {w w7 w' : World} {i : CI} {N : Nat} {F F' : FS} {S : Nat → Prop} {e : Ending} (T : Below w.heap.size w w7) (h : PutR w7 i N F F' S e w') : PutR w i N F F' S e w' := by
  rcases h with ⟨h1, h2, h3⟩ | ⟨h1, h2, h3, S', h4, h5⟩
  · exact .inl ⟨h1, h2, T.trans (h3.mono T.size)⟩
  · exact .inr ⟨h1, h2, only_trans (only_of_below T _) h3, S', h4, fun b hb => (h5 b hb).elim .inl (fun h => .inr (Nat.le_trans T.size h))⟩
theorem chunk_eq {l m : List UInt8} {k : Nat} (hl : min 128 (m.length - 128 * k) = min 128 (l.length - 128 * k)) (h : ∀ b, 128 * k ≤ b → b < 128 * k + 128 → m.getD b 0 = l.getD b 0) : chunkL m k = chunkL l k := by
  have h1 := chunkL_len m k
  have h2 := chunkL_len l k
  refine List.ext_getElem (by omega) (fun j hj1 hj2 => ?_)
  have e1 := chunkL_get m k (128 * k + j) (by omega) (by omega)
  have e2 := chunkL_get l k (128 * k + j) (by omega) (by omega)
  have e3 := h (128 * k + j) (by omega) (by omega)
  rw [show 128 * k + j - 128 * k = j by omega] at e1 e2
  rw [List.getD_eq_getElem?_getD, List.getElem?_eq_getElem hj1] at e1
  rw [List.getD_eq_getElem?_getD, List.getElem?_eq_getElem hj2] at e2
  simp only [Option.getD_some] at e1 e2
  rw [e1, e2, e3]
/-- the array behind the copy -/
def wrF (l : List UInt8) (q : Nat → Bool) (o : Nat) (m : List UInt8) (b : Nat) : UInt8 := if o ≤ b ∧ b < o + m.length then m.getD (b - o) 0 else loadF l q 6 b
theorem wr_new {l dl : List UInt8} {o : Nat} (hl : l.length ≤ 768) (hd : 0 < dl.length) : ∀ k, min o l.length / 128 + 1 ≤ k → k ≤ numC (o + dl.length) → ∀ b, 128 * (k - 1) ≤ b → b < 128 * k → b < (writeL l o dl).length →
    wrF l (fun k => needWB k l.length o (o + dl.length) (numC l.length)) o dl b = (writeL l o dl).getD b 0 := by
  intro k h1 h2 b h3 h4 _
  rw [writeL_get]
  unfold wrF
  by_cases hc : o ≤ b ∧ b < o + dl.length
  · rw [if_pos hc, if_pos hc]
  · rw [if_neg hc, if_neg hc]
    unfold loadF
    by_cases hbl : b < l.length
    · have hk : b / 128 + 1 = k := by omega
      have hn : needWB k l.length o (o + dl.length) (numC l.length) = true := by
        unfold needWB numC comN lenN endN begN
        unfold numC at h2
        rw [Bool.or_eq_true, Bool.and_eq_true, Bool.and_eq_true, decide_eq_true_eq, decide_eq_true_eq, decide_eq_true_eq, decide_eq_true_eq]
        by_cases hbo : b < o
        · by_cases hol : o < l.length
          · left
            rw [Nat.min_eq_left (Nat.le_of_lt hol)] at h1
            omega
          · right
            rw [Nat.min_eq_right (by omega)] at h1
            omega
        · left
          omega
      rw [if_pos ⟨hbl, by omega, by rw [hk]; exact hn⟩]
    · rw [if_neg (fun h => hbl h.1), List.getD_eq_getElem?_getD, List.getElem?_eq_none (by omega)]
      rfl
theorem wr_same {l dl : List UInt8} {o : Nat} (hd : 0 < dl.length) : ∀ k, 1 ≤ k → (k < min o l.length / 128 + 1 ∨ numC (o + dl.length) < k) → 128 * (k - 1) < (writeL l o dl).length → 128 * (k - 1) < l.length ∧ chunkL (writeL l o dl) (k - 1) = chunkL l (k - 1) := by
  intro k h1 h2 h3
  rw [writeL_len] at h3
  have hlen := writeL_len l o dl
  have h4 : (128 * (k - 1) + 128 ≤ min o l.length ∧ 128 * (k - 1) + 128 ≤ o) ∨ (o + dl.length ≤ 128 * (k - 1) ∧ 128 * (k - 1) < l.length ∧ o + dl.length ≤ l.length) := by
    unfold numC at h2
    rcases h2 with h2 | h2
    · left
      omega
    · right
      omega
  refine ⟨by omega, chunk_eq (by rw [hlen]; omega) (fun b hb1 hb2 => ?_)⟩
  rw [writeL_get, if_neg (by omega)]
set_option maxRecDepth 100000 in
set_option maxHeartbeats 8000000 in
theorem fwrite_file (i : CI) (N : Nat) (F : FS) (S : Nat → Prop) (n : Int) (l dl : List UInt8) (o : Nat) (v : Value) (w : World) (h : FAt w i N F S) (hF : F n = some (.file l)) (hN : N ≤ 900000) (hv : Bytes w w.heap.size v dl) (hd : 0 < dl.length) (hb : o + dl.length ≤ 768) :
    Calls Try.prog 33 #[.pointer (some ⟨i.q, 0, none⟩), .int .i64 n, .int .i64 (o : Int), v] w fun e w' => PutR w i N F (F.put n (some (.file (writeL l o dl)))) S e w' := by
  obtain ⟨DA, DC, rfl, hdc, hdm, hdr⟩ := id hv
  have b0 := Lib.hid ((Below.refl w.heap.size w).alloc (Nat.le_refl _) (.cells #[.int .i64 (o : Int)] 3))
  have O0 : Hid (Blk (w.alloc (.cells #[.int .i64 (o : Int)] 3)) w.heap.size 3 [.int .i64 (o : Int)]) := Lib.hid (heap_alloc_new w _)
  have HV := Lib.hid hv
  have KO := Lib.hid (fopen_file i N F S n l _ (h.after b0.out) hF)
  have hl : l.length ≤ 768 := (h.ok n _ hF).2 l rfl
  have HH := Lib.hid h
  have HHF := Lib.hid hF
  obtain ⟨sz, hsz⟩ : ∃ sz, sz = l.length := ⟨_, rfl⟩
  have HSZ := Lib.hid hsz
  rw [← hsz] at KO hl
  obtain ⟨d, hdd⟩ : ∃ d, d = dl.length := ⟨_, rfl⟩
  have HDD := Lib.hid hdd
  rw [← hdd] at hd hb hdc ⊢
  clear h hF hsz hdd hdr hv
  obtain ⟨go, hgo⟩ : ∃ go, go = w.heap.size := ⟨_, rfl⟩
  have HGO := Lib.hid hgo
  have d1 : ¬ (d : Int) = 0 := by omega
  have d1b : ((d : Int) == 0) = false := by simp; omega
  have d2 : ¬ (768 - (d : Int) < (o : Int)) := by omega
  go_enter Try.func33, Try.ntmps33
  go_upto_region 2 with (first
    | (go_at_call 47; (with_reducible refine KO.out.mono ?_); rintro e w2 ⟨rfl, b2⟩; have BB2 := Lib.hid (b0.out.trans (b2.mono b0.out.size)); have O2 := Lib.hid (O0.out.after b2); clear b2))
  have T3 := Lib.hid (BB2.out.alloc BB2.out.size (.cells #[.pointer (some ⟨i.q, 0, none⟩), .int .i64 n, .int .i64 (sz : Int)] 101))
  have X3 := Lib.hid (Blk.new3c w2 (.pointer (some ⟨i.q, 0, none⟩)) (.int .i64 n) (.int .i64 (sz : Int)) 101)
  have O3 := Lib.hid (O2.out.alloc (.cells #[.pointer (some ⟨i.q, 0, none⟩), .int .i64 n, .int .i64 (sz : Int)] 101))
  have LT := Lib.hid O2.out.lt
  obtain ⟨W3, hW3⟩ : ∃ W3, W3 = w2.alloc (.cells #[.pointer (some ⟨i.q, 0, none⟩), .int .i64 n, .int .i64 (sz : Int)] 101) := ⟨_, rfl⟩
  rw [← hW3] at T3 X3 O3 ⊢
  obtain ⟨g, hg⟩ : ∃ g, g = w2.heap.size := ⟨_, rfl⟩
  have HGL : Hid (go < g ∧ W3.heap.size = g + 1) := Lib.hid ⟨by rw [hgo, hg]; exact LT.out, by rw [hW3, World.size_alloc, hg]⟩
  rw [← hg] at X3 ⊢
  rw [← hgo] at O3 ⊢
  clear hW3 hg hgo O2 LT BB2 b0 O0 KO
  have c0 : W3.cell? ⟨go, 0, none⟩ = some (.int .i64 (o : Int)) := O3.out.cell 0
  have c2 : W3.cell? ⟨g, 2, none⟩ = some (.int .i64 (sz : Int)) := X3.out.cell 2
  go_upto_region 10 with fail
  obtain ⟨en, hen⟩ : ∃ en, en = o + d := ⟨_, rfl⟩
  obtain ⟨la, hla⟩ : ∃ la, la = numC sz := ⟨_, rfl⟩
  have m1 : (o : Int) + (d : Int) = (en : Int) := by omega
  have KC : Hid (∀ w, Calls Try.prog 56 #[.int .i64 (sz : Int)] w fun e w' => e = .returned (.int .i64 (la : Int)) ∧ w = w') := Lib.hid (fun w => by
    have := chunks_any (sz : Int) (by omega) w
    rwa [chunks_num (by omega), ← hla] at this)
  have HEN := Lib.hid hen
  have HLA := Lib.hid hla
  have hen7 : en ≤ 768 := by omega
  clear hen hla
  have c0d : W3.drew.cell? ⟨go, 0, none⟩ = some (.int .i64 (o : Int)) := c0
  have c2d : W3.drew.cell? ⟨g, 2, none⟩ = some (.int .i64 (sz : Int)) := c2
  go_cut [11, 12] (fun s11 s12 wx => ∃ g1 g2, s11 = .pointer (some ⟨g1, 0, none⟩) ∧ s12 = .pointer (some ⟨g2, 0, none⟩) ∧ Hid (Blk wx g1 3 [.int .i64 (en : Int)]) ∧ Hid (Blk wx g2 3 [.int .i64 (la : Int)]) ∧ Hid (Blk wx go 3 [.int .i64 (o : Int)]) ∧ Hid (Blk wx g 101 [.pointer (some ⟨i.q, 0, none⟩), .int .i64 n, .int .i64 (sz : Int)]) ∧ Hid (Below w.heap.size w wx))
  case first =>
    have SX : W3.drew.cell? ⟨go, 0, none⟩ = some (.int .i64 (o : Int)) ∧ W3.drew.cell? ⟨g, 2, none⟩ = some (.int .i64 (sz : Int)) := ⟨c0d, c2d⟩
    have O0 : Hid (Blk W3.drew go 3 [.int .i64 (o : Int)]) := Lib.hid O3.out
    have X0 : Hid (Blk W3.drew g 101 [.pointer (some ⟨i.q, 0, none⟩), .int .i64 n, .int .i64 (sz : Int)]) := Lib.hid X3.out
    have T0 : Hid (Below w.heap.size w W3.drew) := Lib.hid T3.out.drew
    refine wp_region_held_drew (S := (fun w' => w'.cell? ⟨go, 0, none⟩ = some (.int .i64 (o : Int)) ∧ w'.cell? ⟨g, 2, none⟩ = some (.int .i64 (sz : Int)))) (by kernel_rfl) SX (fun _ => ?_)
    obtain ⟨Wd, hWd⟩ : ∃ Wd, Wd = W3.drew := ⟨_, rfl⟩
    rw [← hWd] at SX O0 X0 T0 ⊢
    clear hWd c0d c2d c0 c2 O3 X3 T3
    refine wpAnyH_take (i := 0) (v := .int .i64 (o : Int)) rfl (by kernel_rfl) (by kernel_rfl) (by kernel_rfl) (fun _ _ _ h => h) (yields_one (ty := 3) (fun w => by kernel_rfl) (.tmp 6) (by kernel_rfl) (by kernel_rfl) (by kernel_rfl) (fun w h => h.1)) SX ?_
    simp only [Act.put, List.getElem_toArray, List.getElem_cons_zero, List.setIfInBounds_toArray, List.set_cons_zero, List.set_cons_succ]
    refine wpAnyH_take (i := 1) (v := .slice DA d DC) rfl (by kernel_rfl) (by kernel_rfl) (by kernel_rfl) (fun _ _ _ h => h) (Or.inl ⟨by kernel_rfl, fun w _ => by go_simp⟩) SX ?_
    simp only [Act.put, List.getElem_toArray, List.getElem_cons_zero, List.getElem_cons_succ, List.setIfInBounds_toArray, List.set_cons_zero, List.set_cons_succ]
    refine wpAnyH_take (i := 2) (v := .int .i64 (d : Int)) rfl (by kernel_rfl) (by kernel_rfl) (by kernel_rfl) (fun _ _ _ h => h) (Or.inl ⟨by kernel_rfl, fun w _ => by go_simp⟩) SX ?_
    simp only [Act.put, List.getElem_toArray, List.getElem_cons_zero, List.getElem_cons_succ, List.setIfInBounds_toArray, List.set_cons_zero, List.set_cons_succ]
    have hwr : IntKind.i64.wrap (en : Int) = (en : Int) := by
      rw [IntKind.wrap_i64]
      omega
    refine wpAnyH_take (i := 3) (v := .int .i64 (en : Int)) rfl (by kernel_rfl) (by kernel_rfl) (by kernel_rfl) (fun _ _ _ h => h) (Or.inl ⟨by kernel_rfl, fun w _ => by go_simp⟩) SX ?_
    simp only [Act.put, List.getElem_toArray, List.getElem_cons_zero, List.getElem_cons_succ, List.setIfInBounds_toArray, List.set_cons_zero, List.set_cons_succ]
    refine wpAnyH_take (i := 4) (v := .pointer (some ⟨g, 2, none⟩)) rfl (by kernel_rfl) (by kernel_rfl) (by kernel_rfl) (fun _ _ _ h => h) (Or.inl ⟨by kernel_rfl, fun w _ => by go_simp⟩) SX ?_
    simp only [Act.put, List.getElem_toArray, List.getElem_cons_zero, List.getElem_cons_succ, List.setIfInBounds_toArray, List.set_cons_zero, List.set_cons_succ]
    refine wpAnyH_take (i := 5) (v := .int .i64 (sz : Int)) rfl (by kernel_rfl) (by kernel_rfl) (by kernel_rfl) (fun _ _ _ h => h) (yields_one (ty := 3) (fun w => by kernel_rfl) (.tmp 41) (by kernel_rfl) (by kernel_rfl) (by kernel_rfl) (fun w h => h.2)) SX ?_
    simp only [Act.put, List.getElem_toArray, List.getElem_cons_zero, List.getElem_cons_succ, List.setIfInBounds_toArray, List.set_cons_zero, List.set_cons_succ]
    refine wpAnyH_ready (rs := [6, 7, 8]) (by kernel_rfl) (by simp) (AllReadyH.cons rfl (fun K hK => ?_) (AllReadyH.cons rfl (fun K hK => ?_) (AllReadyH.cons rfl (fun K hK => ?_) AllReadyH.nil)))
    · go_simp
      (with_reducible refine (KC.out _).mono ?_); rintro e wC ⟨rfl, rfl⟩
      refine hK _ _ SX (fun _ => ?_)
      clear hK K
      refine wpAnyH_ready (rs := [7, 8]) (by kernel_rfl) (by simp) (AllReadyH.cons rfl (fun K hK => ?_) (AllReadyH.cons rfl (fun K hK => ?_) AllReadyH.nil))
      · go_simp
        obtain ⟨W0a, hW⟩ : ∃ Wn, Wn = Wd.alloc (.cells #[.int .i64 0] 3) := ⟨_, rfl⟩
        rw [← hW]
        obtain ⟨g1, hg1⟩ : ∃ gn, gn = Wd.heap.size := ⟨_, rfl⟩
        rw [← hg1]
        have O0a : Hid (Blk W0a go 3 [.int .i64 (o : Int)]) := Lib.hid (by rw [hW]; exact O0.out.alloc (.cells #[.int .i64 0] 3))
        have X0a : Hid (Blk W0a g 101 [.pointer (some ⟨i.q, 0, none⟩), .int .i64 n, .int .i64 (sz : Int)]) := Lib.hid (by rw [hW]; exact X0.out.alloc (.cells #[.int .i64 0] 3))
        have T0a : Hid (Below w.heap.size w W0a) := Lib.hid (by rw [hW]; exact T0.out.alloc T0.out.size (.cells #[.int .i64 0] 3))
        have G10a : Hid (Blk W0a g1 3 [.int .i64 0]) := Lib.hid (by rw [hW, hg1]; exact heap_alloc_new _ _)
        have N1 : Hid (go < g1 ∧ g < g1) := Lib.hid ⟨by rw [hg1]; exact O0.out.lt, by rw [hg1]; exact X0.out.lt⟩
        have SXa : W0a.cell? ⟨go, 0, none⟩ = some (.int .i64 (o : Int)) ∧ W0a.cell? ⟨g, 2, none⟩ = some (.int .i64 (sz : Int)) := ⟨O0a.out.cell 0, X0a.out.cell 2⟩
        clear hW hg1 O0 X0 T0
        refine hK _ _ SXa (fun _ => ?_)
        clear hK K SX
        refine wpAnyH_ready (rs := [8]) (by kernel_rfl) (by simp) (AllReadyH.cons rfl (fun K hK => ?_) AllReadyH.nil)
        · go_simp
          obtain ⟨W0aa, hW⟩ : ∃ Wn, Wn = W0a.alloc (.cells #[.int .i64 0] 3) := ⟨_, rfl⟩
          rw [← hW]
          obtain ⟨g2, hg2⟩ : ∃ gn, gn = W0a.heap.size := ⟨_, rfl⟩
          rw [← hg2]
          have O0aa : Hid (Blk W0aa go 3 [.int .i64 (o : Int)]) := Lib.hid (by rw [hW]; exact O0a.out.alloc (.cells #[.int .i64 0] 3))
          have X0aa : Hid (Blk W0aa g 101 [.pointer (some ⟨i.q, 0, none⟩), .int .i64 n, .int .i64 (sz : Int)]) := Lib.hid (by rw [hW]; exact X0a.out.alloc (.cells #[.int .i64 0] 3))
          have T0aa : Hid (Below w.heap.size w W0aa) := Lib.hid (by rw [hW]; exact T0a.out.alloc T0a.out.size (.cells #[.int .i64 0] 3))
          have G20aa : Hid (Blk W0aa g2 3 [.int .i64 0]) := Lib.hid (by rw [hW, hg2]; exact heap_alloc_new _ _)
          have N2 : Hid (go < g2 ∧ g < g2) := Lib.hid ⟨by rw [hg2]; exact O0a.out.lt, by rw [hg2]; exact X0a.out.lt⟩
          have G10aa : Hid (Blk W0aa g1 3 [.int .i64 0]) := Lib.hid (by rw [hW]; exact G10a.out.alloc (.cells #[.int .i64 0] 3))
          have ND : Hid (g1 < g2) := Lib.hid (by rw [hg2]; exact G10a.out.lt)
          have SXaa : W0aa.cell? ⟨go, 0, none⟩ = some (.int .i64 (o : Int)) ∧ W0aa.cell? ⟨g, 2, none⟩ = some (.int .i64 (sz : Int)) := ⟨O0aa.out.cell 0, X0aa.out.cell 2⟩
          clear hW hg2 O0a X0a T0a
          refine hK _ _ SXaa (fun _ => ?_)
          clear hK K SXa
          refine wpAnyH_ready (rs := [9]) (by kernel_rfl) (by simp) (AllReadyH.cons rfl (fun K hK => ?_) AllReadyH.nil)
          have cc : W0aa.cell? ⟨g1, 0, none⟩ = some (.int .i64 0) := G10aa.out.cell 0
          have ff := G10aa.out.free 0
          go_simp
          have gs := only_set W0aa ⟨g1, 0, none⟩ (.int .i64 (en : Int))
          have G10aas : Hid (Blk (W0aa.setCell ⟨g1, 0, none⟩ (.int .i64 (en : Int))) g1 3 [.int .i64 (en : Int)]) := Lib.hid (G10aa.out.set 0 (.int .i64 (en : Int)))
          have G20aas := Lib.hid (G20aa.out.grown gs (by simp only [ne_eq, Option.some.injEq]; have := ND.out; omega))
          have O0aas := Lib.hid (O0aa.out.grown gs (by simp only [ne_eq, Option.some.injEq]; have := N1.out; omega))
          have X0aas := Lib.hid (X0aa.out.grown gs (by simp only [ne_eq, Option.some.injEq]; have := N1.out; omega))
          have T0aas := Lib.hid (T0aa.out.grown gs T0aa.out.size (fun q e => by cases e; show w.heap.size ≤ g1; have := N1.out; have := HGO.out; omega))
          obtain ⟨W0aas, hW⟩ : ∃ Wn, Wn = W0aa.setCell ⟨g1, 0, none⟩ (.int .i64 (en : Int)) := ⟨_, rfl⟩
          rw [← hW] at G10aas G20aas O0aas X0aas T0aas ⊢
          have SXaas : W0aas.cell? ⟨go, 0, none⟩ = some (.int .i64 (o : Int)) ∧ W0aas.cell? ⟨g, 2, none⟩ = some (.int .i64 (sz : Int)) := ⟨O0aas.out.cell 0, X0aas.out.cell 2⟩
          clear hW gs cc ff G10aa G20aa O0aa X0aa T0aa
          refine hK _ _ SXaas (fun _ => ?_)
          clear hK K SXaa
          refine wpAnyH_ready (rs := [10]) (by kernel_rfl) (by simp) (AllReadyH.cons rfl (fun K hK => ?_) AllReadyH.nil)
          have cc : W0aas.cell? ⟨g2, 0, none⟩ = some (.int .i64 0) := G20aas.out.cell 0
          have ff := G20aas.out.free 0
          go_simp
          have gs := only_set W0aas ⟨g2, 0, none⟩ (.int .i64 (la : Int))
          have G20aass : Hid (Blk (W0aas.setCell ⟨g2, 0, none⟩ (.int .i64 (la : Int))) g2 3 [.int .i64 (la : Int)]) := Lib.hid (G20aas.out.set 0 (.int .i64 (la : Int)))
          have G10aass := Lib.hid (G10aas.out.grown gs (by simp only [ne_eq, Option.some.injEq]; have := ND.out; omega))
          have O0aass := Lib.hid (O0aas.out.grown gs (by simp only [ne_eq, Option.some.injEq]; have := N2.out; omega))
          have X0aass := Lib.hid (X0aas.out.grown gs (by simp only [ne_eq, Option.some.injEq]; have := N2.out; omega))
          have T0aass := Lib.hid (T0aas.out.grown gs T0aas.out.size (fun q e => by cases e; show w.heap.size ≤ g2; have := N2.out; have := HGO.out; omega))
          obtain ⟨W0aass, hW⟩ : ∃ Wn, Wn = W0aas.setCell ⟨g2, 0, none⟩ (.int .i64 (la : Int)) := ⟨_, rfl⟩
          rw [← hW] at G10aass G20aass O0aass X0aass T0aass ⊢
          have SXaass : W0aass.cell? ⟨go, 0, none⟩ = some (.int .i64 (o : Int)) ∧ W0aass.cell? ⟨g, 2, none⟩ = some (.int .i64 (sz : Int)) := ⟨O0aass.out.cell 0, X0aass.out.cell 2⟩
          clear hW gs cc ff G10aas G20aas O0aas X0aas T0aas
          refine hK _ _ SXaass (fun _ => ?_)
          clear hK K SXaas
          refine wpAnyH_done (by kernel_rfl) ?_ _
          go_simp
          try simp only [Act.put]
          go_wp2_with fail
          go_meet
          exact ⟨g1, g2, rfl, rfl, G10aass, G20aass, O0aass, X0aass, T0aass⟩
      · go_simp
        obtain ⟨W0a, hW⟩ : ∃ Wn, Wn = Wd.alloc (.cells #[.int .i64 0] 3) := ⟨_, rfl⟩
        rw [← hW]
        obtain ⟨g2, hg2⟩ : ∃ gn, gn = Wd.heap.size := ⟨_, rfl⟩
        rw [← hg2]
        have O0a : Hid (Blk W0a go 3 [.int .i64 (o : Int)]) := Lib.hid (by rw [hW]; exact O0.out.alloc (.cells #[.int .i64 0] 3))
        have X0a : Hid (Blk W0a g 101 [.pointer (some ⟨i.q, 0, none⟩), .int .i64 n, .int .i64 (sz : Int)]) := Lib.hid (by rw [hW]; exact X0.out.alloc (.cells #[.int .i64 0] 3))
        have T0a : Hid (Below w.heap.size w W0a) := Lib.hid (by rw [hW]; exact T0.out.alloc T0.out.size (.cells #[.int .i64 0] 3))
        have G20a : Hid (Blk W0a g2 3 [.int .i64 0]) := Lib.hid (by rw [hW, hg2]; exact heap_alloc_new _ _)
        have N2 : Hid (go < g2 ∧ g < g2) := Lib.hid ⟨by rw [hg2]; exact O0.out.lt, by rw [hg2]; exact X0.out.lt⟩
        have SXa : W0a.cell? ⟨go, 0, none⟩ = some (.int .i64 (o : Int)) ∧ W0a.cell? ⟨g, 2, none⟩ = some (.int .i64 (sz : Int)) := ⟨O0a.out.cell 0, X0a.out.cell 2⟩
        clear hW hg2 O0 X0 T0
        refine hK _ _ SXa (fun _ => ?_)
        clear hK K SX
        refine wpAnyH_ready (rs := [7]) (by kernel_rfl) (by simp) (AllReadyH.cons rfl (fun K hK => ?_) AllReadyH.nil)
        · go_simp
          obtain ⟨W0aa, hW⟩ : ∃ Wn, Wn = W0a.alloc (.cells #[.int .i64 0] 3) := ⟨_, rfl⟩
          rw [← hW]
          obtain ⟨g1, hg1⟩ : ∃ gn, gn = W0a.heap.size := ⟨_, rfl⟩
          rw [← hg1]
          have O0aa : Hid (Blk W0aa go 3 [.int .i64 (o : Int)]) := Lib.hid (by rw [hW]; exact O0a.out.alloc (.cells #[.int .i64 0] 3))
          have X0aa : Hid (Blk W0aa g 101 [.pointer (some ⟨i.q, 0, none⟩), .int .i64 n, .int .i64 (sz : Int)]) := Lib.hid (by rw [hW]; exact X0a.out.alloc (.cells #[.int .i64 0] 3))
          have T0aa : Hid (Below w.heap.size w W0aa) := Lib.hid (by rw [hW]; exact T0a.out.alloc T0a.out.size (.cells #[.int .i64 0] 3))
          have G10aa : Hid (Blk W0aa g1 3 [.int .i64 0]) := Lib.hid (by rw [hW, hg1]; exact heap_alloc_new _ _)
          have N1 : Hid (go < g1 ∧ g < g1) := Lib.hid ⟨by rw [hg1]; exact O0a.out.lt, by rw [hg1]; exact X0a.out.lt⟩
          have G20aa : Hid (Blk W0aa g2 3 [.int .i64 0]) := Lib.hid (by rw [hW]; exact G20a.out.alloc (.cells #[.int .i64 0] 3))
          have ND : Hid (g2 < g1) := Lib.hid (by rw [hg1]; exact G20a.out.lt)
          have SXaa : W0aa.cell? ⟨go, 0, none⟩ = some (.int .i64 (o : Int)) ∧ W0aa.cell? ⟨g, 2, none⟩ = some (.int .i64 (sz : Int)) := ⟨O0aa.out.cell 0, X0aa.out.cell 2⟩
          clear hW hg1 O0a X0a T0a
          refine hK _ _ SXaa (fun _ => ?_)
          clear hK K SXa
          refine wpAnyH_ready (rs := [9]) (by kernel_rfl) (by simp) (AllReadyH.cons rfl (fun K hK => ?_) AllReadyH.nil)
          have cc : W0aa.cell? ⟨g1, 0, none⟩ = some (.int .i64 0) := G10aa.out.cell 0
          have ff := G10aa.out.free 0
          go_simp
          have gs := only_set W0aa ⟨g1, 0, none⟩ (.int .i64 (en : Int))
          have G10aas : Hid (Blk (W0aa.setCell ⟨g1, 0, none⟩ (.int .i64 (en : Int))) g1 3 [.int .i64 (en : Int)]) := Lib.hid (G10aa.out.set 0 (.int .i64 (en : Int)))
          have G20aas := Lib.hid (G20aa.out.grown gs (by simp only [ne_eq, Option.some.injEq]; have := ND.out; omega))
          have O0aas := Lib.hid (O0aa.out.grown gs (by simp only [ne_eq, Option.some.injEq]; have := N1.out; omega))
          have X0aas := Lib.hid (X0aa.out.grown gs (by simp only [ne_eq, Option.some.injEq]; have := N1.out; omega))
          have T0aas := Lib.hid (T0aa.out.grown gs T0aa.out.size (fun q e => by cases e; show w.heap.size ≤ g1; have := N1.out; have := HGO.out; omega))
          obtain ⟨W0aas, hW⟩ : ∃ Wn, Wn = W0aa.setCell ⟨g1, 0, none⟩ (.int .i64 (en : Int)) := ⟨_, rfl⟩
          rw [← hW] at G10aas G20aas O0aas X0aas T0aas ⊢
          have SXaas : W0aas.cell? ⟨go, 0, none⟩ = some (.int .i64 (o : Int)) ∧ W0aas.cell? ⟨g, 2, none⟩ = some (.int .i64 (sz : Int)) := ⟨O0aas.out.cell 0, X0aas.out.cell 2⟩
          clear hW gs cc ff G10aa G20aa O0aa X0aa T0aa
          refine hK _ _ SXaas (fun _ => ?_)
          clear hK K SXaa
          refine wpAnyH_ready (rs := [10]) (by kernel_rfl) (by simp) (AllReadyH.cons rfl (fun K hK => ?_) AllReadyH.nil)
          have cc : W0aas.cell? ⟨g2, 0, none⟩ = some (.int .i64 0) := G20aas.out.cell 0
          have ff := G20aas.out.free 0
          go_simp
          have gs := only_set W0aas ⟨g2, 0, none⟩ (.int .i64 (la : Int))
          have G20aass : Hid (Blk (W0aas.setCell ⟨g2, 0, none⟩ (.int .i64 (la : Int))) g2 3 [.int .i64 (la : Int)]) := Lib.hid (G20aas.out.set 0 (.int .i64 (la : Int)))
          have G10aass := Lib.hid (G10aas.out.grown gs (by simp only [ne_eq, Option.some.injEq]; have := ND.out; omega))
          have O0aass := Lib.hid (O0aas.out.grown gs (by simp only [ne_eq, Option.some.injEq]; have := N2.out; omega))
          have X0aass := Lib.hid (X0aas.out.grown gs (by simp only [ne_eq, Option.some.injEq]; have := N2.out; omega))
          have T0aass := Lib.hid (T0aas.out.grown gs T0aas.out.size (fun q e => by cases e; show w.heap.size ≤ g2; have := N2.out; have := HGO.out; omega))
          obtain ⟨W0aass, hW⟩ : ∃ Wn, Wn = W0aas.setCell ⟨g2, 0, none⟩ (.int .i64 (la : Int)) := ⟨_, rfl⟩
          rw [← hW] at G10aass G20aass O0aass X0aass T0aass ⊢
          have SXaass : W0aass.cell? ⟨go, 0, none⟩ = some (.int .i64 (o : Int)) ∧ W0aass.cell? ⟨g, 2, none⟩ = some (.int .i64 (sz : Int)) := ⟨O0aass.out.cell 0, X0aass.out.cell 2⟩
          clear hW gs cc ff G10aas G20aas O0aas X0aas T0aas
          refine hK _ _ SXaass (fun _ => ?_)
          clear hK K SXaas
          refine wpAnyH_done (by kernel_rfl) ?_ _
          go_simp
          try simp only [Act.put]
          go_wp2_with fail
          go_meet
          exact ⟨g1, g2, rfl, rfl, G10aass, G20aass, O0aass, X0aass, T0aass⟩
    · go_simp
      obtain ⟨W0a, hW⟩ : ∃ Wn, Wn = Wd.alloc (.cells #[.int .i64 0] 3) := ⟨_, rfl⟩
      rw [← hW]
      obtain ⟨g1, hg1⟩ : ∃ gn, gn = Wd.heap.size := ⟨_, rfl⟩
      rw [← hg1]
      have O0a : Hid (Blk W0a go 3 [.int .i64 (o : Int)]) := Lib.hid (by rw [hW]; exact O0.out.alloc (.cells #[.int .i64 0] 3))
      have X0a : Hid (Blk W0a g 101 [.pointer (some ⟨i.q, 0, none⟩), .int .i64 n, .int .i64 (sz : Int)]) := Lib.hid (by rw [hW]; exact X0.out.alloc (.cells #[.int .i64 0] 3))
      have T0a : Hid (Below w.heap.size w W0a) := Lib.hid (by rw [hW]; exact T0.out.alloc T0.out.size (.cells #[.int .i64 0] 3))
      have G10a : Hid (Blk W0a g1 3 [.int .i64 0]) := Lib.hid (by rw [hW, hg1]; exact heap_alloc_new _ _)
      have N1 : Hid (go < g1 ∧ g < g1) := Lib.hid ⟨by rw [hg1]; exact O0.out.lt, by rw [hg1]; exact X0.out.lt⟩
      have SXa : W0a.cell? ⟨go, 0, none⟩ = some (.int .i64 (o : Int)) ∧ W0a.cell? ⟨g, 2, none⟩ = some (.int .i64 (sz : Int)) := ⟨O0a.out.cell 0, X0a.out.cell 2⟩
      clear hW hg1 O0 X0 T0
      refine hK _ _ SXa (fun _ => ?_)
      clear hK K SX
      refine wpAnyH_ready (rs := [6, 8]) (by kernel_rfl) (by simp) (AllReadyH.cons rfl (fun K hK => ?_) (AllReadyH.cons rfl (fun K hK => ?_) AllReadyH.nil))
      · go_simp
        (with_reducible refine (KC.out _).mono ?_); rintro e wC ⟨rfl, rfl⟩
        refine hK _ _ SXa (fun _ => ?_)
        clear hK K
        refine wpAnyH_ready (rs := [8]) (by kernel_rfl) (by simp) (AllReadyH.cons rfl (fun K hK => ?_) AllReadyH.nil)
        · go_simp
          obtain ⟨W0aa, hW⟩ : ∃ Wn, Wn = W0a.alloc (.cells #[.int .i64 0] 3) := ⟨_, rfl⟩
          rw [← hW]
          obtain ⟨g2, hg2⟩ : ∃ gn, gn = W0a.heap.size := ⟨_, rfl⟩
          rw [← hg2]
          have O0aa : Hid (Blk W0aa go 3 [.int .i64 (o : Int)]) := Lib.hid (by rw [hW]; exact O0a.out.alloc (.cells #[.int .i64 0] 3))
          have X0aa : Hid (Blk W0aa g 101 [.pointer (some ⟨i.q, 0, none⟩), .int .i64 n, .int .i64 (sz : Int)]) := Lib.hid (by rw [hW]; exact X0a.out.alloc (.cells #[.int .i64 0] 3))
          have T0aa : Hid (Below w.heap.size w W0aa) := Lib.hid (by rw [hW]; exact T0a.out.alloc T0a.out.size (.cells #[.int .i64 0] 3))
          have G20aa : Hid (Blk W0aa g2 3 [.int .i64 0]) := Lib.hid (by rw [hW, hg2]; exact heap_alloc_new _ _)
          have N2 : Hid (go < g2 ∧ g < g2) := Lib.hid ⟨by rw [hg2]; exact O0a.out.lt, by rw [hg2]; exact X0a.out.lt⟩
          have G10aa : Hid (Blk W0aa g1 3 [.int .i64 0]) := Lib.hid (by rw [hW]; exact G10a.out.alloc (.cells #[.int .i64 0] 3))
          have ND : Hid (g1 < g2) := Lib.hid (by rw [hg2]; exact G10a.out.lt)
          have SXaa : W0aa.cell? ⟨go, 0, none⟩ = some (.int .i64 (o : Int)) ∧ W0aa.cell? ⟨g, 2, none⟩ = some (.int .i64 (sz : Int)) := ⟨O0aa.out.cell 0, X0aa.out.cell 2⟩
          clear hW hg2 O0a X0a T0a
          refine hK _ _ SXaa (fun _ => ?_)
          clear hK K SXa
          refine wpAnyH_ready (rs := [9]) (by kernel_rfl) (by simp) (AllReadyH.cons rfl (fun K hK => ?_) AllReadyH.nil)
          have cc : W0aa.cell? ⟨g1, 0, none⟩ = some (.int .i64 0) := G10aa.out.cell 0
          have ff := G10aa.out.free 0
          go_simp
          have gs := only_set W0aa ⟨g1, 0, none⟩ (.int .i64 (en : Int))
          have G10aas : Hid (Blk (W0aa.setCell ⟨g1, 0, none⟩ (.int .i64 (en : Int))) g1 3 [.int .i64 (en : Int)]) := Lib.hid (G10aa.out.set 0 (.int .i64 (en : Int)))
          have G20aas := Lib.hid (G20aa.out.grown gs (by simp only [ne_eq, Option.some.injEq]; have := ND.out; omega))
          have O0aas := Lib.hid (O0aa.out.grown gs (by simp only [ne_eq, Option.some.injEq]; have := N1.out; omega))
          have X0aas := Lib.hid (X0aa.out.grown gs (by simp only [ne_eq, Option.some.injEq]; have := N1.out; omega))
          have T0aas := Lib.hid (T0aa.out.grown gs T0aa.out.size (fun q e => by cases e; show w.heap.size ≤ g1; have := N1.out; have := HGO.out; omega))
          obtain ⟨W0aas, hW⟩ : ∃ Wn, Wn = W0aa.setCell ⟨g1, 0, none⟩ (.int .i64 (en : Int)) := ⟨_, rfl⟩
          rw [← hW] at G10aas G20aas O0aas X0aas T0aas ⊢
          have SXaas : W0aas.cell? ⟨go, 0, none⟩ = some (.int .i64 (o : Int)) ∧ W0aas.cell? ⟨g, 2, none⟩ = some (.int .i64 (sz : Int)) := ⟨O0aas.out.cell 0, X0aas.out.cell 2⟩
          clear hW gs cc ff G10aa G20aa O0aa X0aa T0aa
          refine hK _ _ SXaas (fun _ => ?_)
          clear hK K SXaa
          refine wpAnyH_ready (rs := [10]) (by kernel_rfl) (by simp) (AllReadyH.cons rfl (fun K hK => ?_) AllReadyH.nil)
          have cc : W0aas.cell? ⟨g2, 0, none⟩ = some (.int .i64 0) := G20aas.out.cell 0
          have ff := G20aas.out.free 0
          go_simp
          have gs := only_set W0aas ⟨g2, 0, none⟩ (.int .i64 (la : Int))
          have G20aass : Hid (Blk (W0aas.setCell ⟨g2, 0, none⟩ (.int .i64 (la : Int))) g2 3 [.int .i64 (la : Int)]) := Lib.hid (G20aas.out.set 0 (.int .i64 (la : Int)))
          have G10aass := Lib.hid (G10aas.out.grown gs (by simp only [ne_eq, Option.some.injEq]; have := ND.out; omega))
          have O0aass := Lib.hid (O0aas.out.grown gs (by simp only [ne_eq, Option.some.injEq]; have := N2.out; omega))
          have X0aass := Lib.hid (X0aas.out.grown gs (by simp only [ne_eq, Option.some.injEq]; have := N2.out; omega))
          have T0aass := Lib.hid (T0aas.out.grown gs T0aas.out.size (fun q e => by cases e; show w.heap.size ≤ g2; have := N2.out; have := HGO.out; omega))
          obtain ⟨W0aass, hW⟩ : ∃ Wn, Wn = W0aas.setCell ⟨g2, 0, none⟩ (.int .i64 (la : Int)) := ⟨_, rfl⟩
          rw [← hW] at G10aass G20aass O0aass X0aass T0aass ⊢
          have SXaass : W0aass.cell? ⟨go, 0, none⟩ = some (.int .i64 (o : Int)) ∧ W0aass.cell? ⟨g, 2, none⟩ = some (.int .i64 (sz : Int)) := ⟨O0aass.out.cell 0, X0aass.out.cell 2⟩
          clear hW gs cc ff G10aas G20aas O0aas X0aas T0aas
          refine hK _ _ SXaass (fun _ => ?_)
          clear hK K SXaas
          refine wpAnyH_done (by kernel_rfl) ?_ _
          go_simp
          try simp only [Act.put]
          go_wp2_with fail
          go_meet
          exact ⟨g1, g2, rfl, rfl, G10aass, G20aass, O0aass, X0aass, T0aass⟩
      · go_simp
        obtain ⟨W0aa, hW⟩ : ∃ Wn, Wn = W0a.alloc (.cells #[.int .i64 0] 3) := ⟨_, rfl⟩
        rw [← hW]
        obtain ⟨g2, hg2⟩ : ∃ gn, gn = W0a.heap.size := ⟨_, rfl⟩
        rw [← hg2]
        have O0aa : Hid (Blk W0aa go 3 [.int .i64 (o : Int)]) := Lib.hid (by rw [hW]; exact O0a.out.alloc (.cells #[.int .i64 0] 3))
        have X0aa : Hid (Blk W0aa g 101 [.pointer (some ⟨i.q, 0, none⟩), .int .i64 n, .int .i64 (sz : Int)]) := Lib.hid (by rw [hW]; exact X0a.out.alloc (.cells #[.int .i64 0] 3))
        have T0aa : Hid (Below w.heap.size w W0aa) := Lib.hid (by rw [hW]; exact T0a.out.alloc T0a.out.size (.cells #[.int .i64 0] 3))
        have G20aa : Hid (Blk W0aa g2 3 [.int .i64 0]) := Lib.hid (by rw [hW, hg2]; exact heap_alloc_new _ _)
        have N2 : Hid (go < g2 ∧ g < g2) := Lib.hid ⟨by rw [hg2]; exact O0a.out.lt, by rw [hg2]; exact X0a.out.lt⟩
        have G10aa : Hid (Blk W0aa g1 3 [.int .i64 0]) := Lib.hid (by rw [hW]; exact G10a.out.alloc (.cells #[.int .i64 0] 3))
        have ND : Hid (g1 < g2) := Lib.hid (by rw [hg2]; exact G10a.out.lt)
        have SXaa : W0aa.cell? ⟨go, 0, none⟩ = some (.int .i64 (o : Int)) ∧ W0aa.cell? ⟨g, 2, none⟩ = some (.int .i64 (sz : Int)) := ⟨O0aa.out.cell 0, X0aa.out.cell 2⟩
        clear hW hg2 O0a X0a T0a
        refine hK _ _ SXaa (fun _ => ?_)
        clear hK K SXa
        refine wpAnyH_ready (rs := [6]) (by kernel_rfl) (by simp) (AllReadyH.cons rfl (fun K hK => ?_) AllReadyH.nil)
        · go_simp
          (with_reducible refine (KC.out _).mono ?_); rintro e wC ⟨rfl, rfl⟩
          refine hK _ _ SXaa (fun _ => ?_)
          clear hK K
          refine wpAnyH_ready (rs := [9]) (by kernel_rfl) (by simp) (AllReadyH.cons rfl (fun K hK => ?_) AllReadyH.nil)
          have cc : W0aa.cell? ⟨g1, 0, none⟩ = some (.int .i64 0) := G10aa.out.cell 0
          have ff := G10aa.out.free 0
          go_simp
          have gs := only_set W0aa ⟨g1, 0, none⟩ (.int .i64 (en : Int))
          have G10aas : Hid (Blk (W0aa.setCell ⟨g1, 0, none⟩ (.int .i64 (en : Int))) g1 3 [.int .i64 (en : Int)]) := Lib.hid (G10aa.out.set 0 (.int .i64 (en : Int)))
          have G20aas := Lib.hid (G20aa.out.grown gs (by simp only [ne_eq, Option.some.injEq]; have := ND.out; omega))
          have O0aas := Lib.hid (O0aa.out.grown gs (by simp only [ne_eq, Option.some.injEq]; have := N1.out; omega))
          have X0aas := Lib.hid (X0aa.out.grown gs (by simp only [ne_eq, Option.some.injEq]; have := N1.out; omega))
          have T0aas := Lib.hid (T0aa.out.grown gs T0aa.out.size (fun q e => by cases e; show w.heap.size ≤ g1; have := N1.out; have := HGO.out; omega))
          obtain ⟨W0aas, hW⟩ : ∃ Wn, Wn = W0aa.setCell ⟨g1, 0, none⟩ (.int .i64 (en : Int)) := ⟨_, rfl⟩
          rw [← hW] at G10aas G20aas O0aas X0aas T0aas ⊢
          have SXaas : W0aas.cell? ⟨go, 0, none⟩ = some (.int .i64 (o : Int)) ∧ W0aas.cell? ⟨g, 2, none⟩ = some (.int .i64 (sz : Int)) := ⟨O0aas.out.cell 0, X0aas.out.cell 2⟩
          clear hW gs cc ff G10aa G20aa O0aa X0aa T0aa
          refine hK _ _ SXaas (fun _ => ?_)
          clear hK K SXaa
          refine wpAnyH_ready (rs := [10]) (by kernel_rfl) (by simp) (AllReadyH.cons rfl (fun K hK => ?_) AllReadyH.nil)
          have cc : W0aas.cell? ⟨g2, 0, none⟩ = some (.int .i64 0) := G20aas.out.cell 0
          have ff := G20aas.out.free 0
          go_simp
          have gs := only_set W0aas ⟨g2, 0, none⟩ (.int .i64 (la : Int))
          have G20aass : Hid (Blk (W0aas.setCell ⟨g2, 0, none⟩ (.int .i64 (la : Int))) g2 3 [.int .i64 (la : Int)]) := Lib.hid (G20aas.out.set 0 (.int .i64 (la : Int)))
          have G10aass := Lib.hid (G10aas.out.grown gs (by simp only [ne_eq, Option.some.injEq]; have := ND.out; omega))
          have O0aass := Lib.hid (O0aas.out.grown gs (by simp only [ne_eq, Option.some.injEq]; have := N2.out; omega))
          have X0aass := Lib.hid (X0aas.out.grown gs (by simp only [ne_eq, Option.some.injEq]; have := N2.out; omega))
          have T0aass := Lib.hid (T0aas.out.grown gs T0aas.out.size (fun q e => by cases e; show w.heap.size ≤ g2; have := N2.out; have := HGO.out; omega))
          obtain ⟨W0aass, hW⟩ : ∃ Wn, Wn = W0aas.setCell ⟨g2, 0, none⟩ (.int .i64 (la : Int)) := ⟨_, rfl⟩
          rw [← hW] at G10aass G20aass O0aass X0aass T0aass ⊢
          have SXaass : W0aass.cell? ⟨go, 0, none⟩ = some (.int .i64 (o : Int)) ∧ W0aass.cell? ⟨g, 2, none⟩ = some (.int .i64 (sz : Int)) := ⟨O0aass.out.cell 0, X0aass.out.cell 2⟩
          clear hW gs cc ff G10aas G20aas O0aas X0aas T0aas
          refine hK _ _ SXaass (fun _ => ?_)
          clear hK K SXaas
          refine wpAnyH_done (by kernel_rfl) ?_ _
          go_simp
          try simp only [Act.put]
          go_wp2_with fail
          go_meet
          exact ⟨g1, g2, rfl, rfl, G10aass, G20aass, O0aass, X0aass, T0aass⟩
    · go_simp
      obtain ⟨W0a, hW⟩ : ∃ Wn, Wn = Wd.alloc (.cells #[.int .i64 0] 3) := ⟨_, rfl⟩
      rw [← hW]
      obtain ⟨g2, hg2⟩ : ∃ gn, gn = Wd.heap.size := ⟨_, rfl⟩
      rw [← hg2]
      have O0a : Hid (Blk W0a go 3 [.int .i64 (o : Int)]) := Lib.hid (by rw [hW]; exact O0.out.alloc (.cells #[.int .i64 0] 3))
      have X0a : Hid (Blk W0a g 101 [.pointer (some ⟨i.q, 0, none⟩), .int .i64 n, .int .i64 (sz : Int)]) := Lib.hid (by rw [hW]; exact X0.out.alloc (.cells #[.int .i64 0] 3))
      have T0a : Hid (Below w.heap.size w W0a) := Lib.hid (by rw [hW]; exact T0.out.alloc T0.out.size (.cells #[.int .i64 0] 3))
      have G20a : Hid (Blk W0a g2 3 [.int .i64 0]) := Lib.hid (by rw [hW, hg2]; exact heap_alloc_new _ _)
      have N2 : Hid (go < g2 ∧ g < g2) := Lib.hid ⟨by rw [hg2]; exact O0.out.lt, by rw [hg2]; exact X0.out.lt⟩
      have SXa : W0a.cell? ⟨go, 0, none⟩ = some (.int .i64 (o : Int)) ∧ W0a.cell? ⟨g, 2, none⟩ = some (.int .i64 (sz : Int)) := ⟨O0a.out.cell 0, X0a.out.cell 2⟩
      clear hW hg2 O0 X0 T0
      refine hK _ _ SXa (fun _ => ?_)
      clear hK K SX
      refine wpAnyH_ready (rs := [6, 7]) (by kernel_rfl) (by simp) (AllReadyH.cons rfl (fun K hK => ?_) (AllReadyH.cons rfl (fun K hK => ?_) AllReadyH.nil))
      · go_simp
        (with_reducible refine (KC.out _).mono ?_); rintro e wC ⟨rfl, rfl⟩
        refine hK _ _ SXa (fun _ => ?_)
        clear hK K
        refine wpAnyH_ready (rs := [7]) (by kernel_rfl) (by simp) (AllReadyH.cons rfl (fun K hK => ?_) AllReadyH.nil)
        · go_simp
          obtain ⟨W0aa, hW⟩ : ∃ Wn, Wn = W0a.alloc (.cells #[.int .i64 0] 3) := ⟨_, rfl⟩
          rw [← hW]
          obtain ⟨g1, hg1⟩ : ∃ gn, gn = W0a.heap.size := ⟨_, rfl⟩
          rw [← hg1]
          have O0aa : Hid (Blk W0aa go 3 [.int .i64 (o : Int)]) := Lib.hid (by rw [hW]; exact O0a.out.alloc (.cells #[.int .i64 0] 3))
          have X0aa : Hid (Blk W0aa g 101 [.pointer (some ⟨i.q, 0, none⟩), .int .i64 n, .int .i64 (sz : Int)]) := Lib.hid (by rw [hW]; exact X0a.out.alloc (.cells #[.int .i64 0] 3))
          have T0aa : Hid (Below w.heap.size w W0aa) := Lib.hid (by rw [hW]; exact T0a.out.alloc T0a.out.size (.cells #[.int .i64 0] 3))
          have G10aa : Hid (Blk W0aa g1 3 [.int .i64 0]) := Lib.hid (by rw [hW, hg1]; exact heap_alloc_new _ _)
          have N1 : Hid (go < g1 ∧ g < g1) := Lib.hid ⟨by rw [hg1]; exact O0a.out.lt, by rw [hg1]; exact X0a.out.lt⟩
          have G20aa : Hid (Blk W0aa g2 3 [.int .i64 0]) := Lib.hid (by rw [hW]; exact G20a.out.alloc (.cells #[.int .i64 0] 3))
          have ND : Hid (g2 < g1) := Lib.hid (by rw [hg1]; exact G20a.out.lt)
          have SXaa : W0aa.cell? ⟨go, 0, none⟩ = some (.int .i64 (o : Int)) ∧ W0aa.cell? ⟨g, 2, none⟩ = some (.int .i64 (sz : Int)) := ⟨O0aa.out.cell 0, X0aa.out.cell 2⟩
          clear hW hg1 O0a X0a T0a
          refine hK _ _ SXaa (fun _ => ?_)
          clear hK K SXa
          refine wpAnyH_ready (rs := [9]) (by kernel_rfl) (by simp) (AllReadyH.cons rfl (fun K hK => ?_) AllReadyH.nil)
          have cc : W0aa.cell? ⟨g1, 0, none⟩ = some (.int .i64 0) := G10aa.out.cell 0
          have ff := G10aa.out.free 0
          go_simp
          have gs := only_set W0aa ⟨g1, 0, none⟩ (.int .i64 (en : Int))
          have G10aas : Hid (Blk (W0aa.setCell ⟨g1, 0, none⟩ (.int .i64 (en : Int))) g1 3 [.int .i64 (en : Int)]) := Lib.hid (G10aa.out.set 0 (.int .i64 (en : Int)))
          have G20aas := Lib.hid (G20aa.out.grown gs (by simp only [ne_eq, Option.some.injEq]; have := ND.out; omega))
          have O0aas := Lib.hid (O0aa.out.grown gs (by simp only [ne_eq, Option.some.injEq]; have := N1.out; omega))
          have X0aas := Lib.hid (X0aa.out.grown gs (by simp only [ne_eq, Option.some.injEq]; have := N1.out; omega))
          have T0aas := Lib.hid (T0aa.out.grown gs T0aa.out.size (fun q e => by cases e; show w.heap.size ≤ g1; have := N1.out; have := HGO.out; omega))
          obtain ⟨W0aas, hW⟩ : ∃ Wn, Wn = W0aa.setCell ⟨g1, 0, none⟩ (.int .i64 (en : Int)) := ⟨_, rfl⟩
          rw [← hW] at G10aas G20aas O0aas X0aas T0aas ⊢
          have SXaas : W0aas.cell? ⟨go, 0, none⟩ = some (.int .i64 (o : Int)) ∧ W0aas.cell? ⟨g, 2, none⟩ = some (.int .i64 (sz : Int)) := ⟨O0aas.out.cell 0, X0aas.out.cell 2⟩
          clear hW gs cc ff G10aa G20aa O0aa X0aa T0aa
          refine hK _ _ SXaas (fun _ => ?_)
          clear hK K SXaa
          refine wpAnyH_ready (rs := [10]) (by kernel_rfl) (by simp) (AllReadyH.cons rfl (fun K hK => ?_) AllReadyH.nil)
          have cc : W0aas.cell? ⟨g2, 0, none⟩ = some (.int .i64 0) := G20aas.out.cell 0
          have ff := G20aas.out.free 0
          go_simp
          have gs := only_set W0aas ⟨g2, 0, none⟩ (.int .i64 (la : Int))
          have G20aass : Hid (Blk (W0aas.setCell ⟨g2, 0, none⟩ (.int .i64 (la : Int))) g2 3 [.int .i64 (la : Int)]) := Lib.hid (G20aas.out.set 0 (.int .i64 (la : Int)))
          have G10aass := Lib.hid (G10aas.out.grown gs (by simp only [ne_eq, Option.some.injEq]; have := ND.out; omega))
          have O0aass := Lib.hid (O0aas.out.grown gs (by simp only [ne_eq, Option.some.injEq]; have := N2.out; omega))
          have X0aass := Lib.hid (X0aas.out.grown gs (by simp only [ne_eq, Option.some.injEq]; have := N2.out; omega))
          have T0aass := Lib.hid (T0aas.out.grown gs T0aas.out.size (fun q e => by cases e; show w.heap.size ≤ g2; have := N2.out; have := HGO.out; omega))
          obtain ⟨W0aass, hW⟩ : ∃ Wn, Wn = W0aas.setCell ⟨g2, 0, none⟩ (.int .i64 (la : Int)) := ⟨_, rfl⟩
          rw [← hW] at G10aass G20aass O0aass X0aass T0aass ⊢
          have SXaass : W0aass.cell? ⟨go, 0, none⟩ = some (.int .i64 (o : Int)) ∧ W0aass.cell? ⟨g, 2, none⟩ = some (.int .i64 (sz : Int)) := ⟨O0aass.out.cell 0, X0aass.out.cell 2⟩
          clear hW gs cc ff G10aas G20aas O0aas X0aas T0aas
          refine hK _ _ SXaass (fun _ => ?_)
          clear hK K SXaas
          refine wpAnyH_done (by kernel_rfl) ?_ _
          go_simp
          try simp only [Act.put]
          go_wp2_with fail
          go_meet
          exact ⟨g1, g2, rfl, rfl, G10aass, G20aass, O0aass, X0aass, T0aass⟩
      · go_simp
        obtain ⟨W0aa, hW⟩ : ∃ Wn, Wn = W0a.alloc (.cells #[.int .i64 0] 3) := ⟨_, rfl⟩
        rw [← hW]
        obtain ⟨g1, hg1⟩ : ∃ gn, gn = W0a.heap.size := ⟨_, rfl⟩
        rw [← hg1]
        have O0aa : Hid (Blk W0aa go 3 [.int .i64 (o : Int)]) := Lib.hid (by rw [hW]; exact O0a.out.alloc (.cells #[.int .i64 0] 3))
        have X0aa : Hid (Blk W0aa g 101 [.pointer (some ⟨i.q, 0, none⟩), .int .i64 n, .int .i64 (sz : Int)]) := Lib.hid (by rw [hW]; exact X0a.out.alloc (.cells #[.int .i64 0] 3))
        have T0aa : Hid (Below w.heap.size w W0aa) := Lib.hid (by rw [hW]; exact T0a.out.alloc T0a.out.size (.cells #[.int .i64 0] 3))
        have G10aa : Hid (Blk W0aa g1 3 [.int .i64 0]) := Lib.hid (by rw [hW, hg1]; exact heap_alloc_new _ _)
        have N1 : Hid (go < g1 ∧ g < g1) := Lib.hid ⟨by rw [hg1]; exact O0a.out.lt, by rw [hg1]; exact X0a.out.lt⟩
        have G20aa : Hid (Blk W0aa g2 3 [.int .i64 0]) := Lib.hid (by rw [hW]; exact G20a.out.alloc (.cells #[.int .i64 0] 3))
        have ND : Hid (g2 < g1) := Lib.hid (by rw [hg1]; exact G20a.out.lt)
        have SXaa : W0aa.cell? ⟨go, 0, none⟩ = some (.int .i64 (o : Int)) ∧ W0aa.cell? ⟨g, 2, none⟩ = some (.int .i64 (sz : Int)) := ⟨O0aa.out.cell 0, X0aa.out.cell 2⟩
        clear hW hg1 O0a X0a T0a
        refine hK _ _ SXaa (fun _ => ?_)
        clear hK K SXa
        refine wpAnyH_ready (rs := [6]) (by kernel_rfl) (by simp) (AllReadyH.cons rfl (fun K hK => ?_) AllReadyH.nil)
        · go_simp
          (with_reducible refine (KC.out _).mono ?_); rintro e wC ⟨rfl, rfl⟩
          refine hK _ _ SXaa (fun _ => ?_)
          clear hK K
          refine wpAnyH_ready (rs := [9]) (by kernel_rfl) (by simp) (AllReadyH.cons rfl (fun K hK => ?_) AllReadyH.nil)
          have cc : W0aa.cell? ⟨g1, 0, none⟩ = some (.int .i64 0) := G10aa.out.cell 0
          have ff := G10aa.out.free 0
          go_simp
          have gs := only_set W0aa ⟨g1, 0, none⟩ (.int .i64 (en : Int))
          have G10aas : Hid (Blk (W0aa.setCell ⟨g1, 0, none⟩ (.int .i64 (en : Int))) g1 3 [.int .i64 (en : Int)]) := Lib.hid (G10aa.out.set 0 (.int .i64 (en : Int)))
          have G20aas := Lib.hid (G20aa.out.grown gs (by simp only [ne_eq, Option.some.injEq]; have := ND.out; omega))
          have O0aas := Lib.hid (O0aa.out.grown gs (by simp only [ne_eq, Option.some.injEq]; have := N1.out; omega))
          have X0aas := Lib.hid (X0aa.out.grown gs (by simp only [ne_eq, Option.some.injEq]; have := N1.out; omega))
          have T0aas := Lib.hid (T0aa.out.grown gs T0aa.out.size (fun q e => by cases e; show w.heap.size ≤ g1; have := N1.out; have := HGO.out; omega))
          obtain ⟨W0aas, hW⟩ : ∃ Wn, Wn = W0aa.setCell ⟨g1, 0, none⟩ (.int .i64 (en : Int)) := ⟨_, rfl⟩
          rw [← hW] at G10aas G20aas O0aas X0aas T0aas ⊢
          have SXaas : W0aas.cell? ⟨go, 0, none⟩ = some (.int .i64 (o : Int)) ∧ W0aas.cell? ⟨g, 2, none⟩ = some (.int .i64 (sz : Int)) := ⟨O0aas.out.cell 0, X0aas.out.cell 2⟩
          clear hW gs cc ff G10aa G20aa O0aa X0aa T0aa
          refine hK _ _ SXaas (fun _ => ?_)
          clear hK K SXaa
          refine wpAnyH_ready (rs := [10]) (by kernel_rfl) (by simp) (AllReadyH.cons rfl (fun K hK => ?_) AllReadyH.nil)
          have cc : W0aas.cell? ⟨g2, 0, none⟩ = some (.int .i64 0) := G20aas.out.cell 0
          have ff := G20aas.out.free 0
          go_simp
          have gs := only_set W0aas ⟨g2, 0, none⟩ (.int .i64 (la : Int))
          have G20aass : Hid (Blk (W0aas.setCell ⟨g2, 0, none⟩ (.int .i64 (la : Int))) g2 3 [.int .i64 (la : Int)]) := Lib.hid (G20aas.out.set 0 (.int .i64 (la : Int)))
          have G10aass := Lib.hid (G10aas.out.grown gs (by simp only [ne_eq, Option.some.injEq]; have := ND.out; omega))
          have O0aass := Lib.hid (O0aas.out.grown gs (by simp only [ne_eq, Option.some.injEq]; have := N2.out; omega))
          have X0aass := Lib.hid (X0aas.out.grown gs (by simp only [ne_eq, Option.some.injEq]; have := N2.out; omega))
          have T0aass := Lib.hid (T0aas.out.grown gs T0aas.out.size (fun q e => by cases e; show w.heap.size ≤ g2; have := N2.out; have := HGO.out; omega))
          obtain ⟨W0aass, hW⟩ : ∃ Wn, Wn = W0aas.setCell ⟨g2, 0, none⟩ (.int .i64 (la : Int)) := ⟨_, rfl⟩
          rw [← hW] at G10aass G20aass O0aass X0aass T0aass ⊢
          have SXaass : W0aass.cell? ⟨go, 0, none⟩ = some (.int .i64 (o : Int)) ∧ W0aass.cell? ⟨g, 2, none⟩ = some (.int .i64 (sz : Int)) := ⟨O0aass.out.cell 0, X0aass.out.cell 2⟩
          clear hW gs cc ff G10aas G20aas O0aas X0aas T0aas
          refine hK _ _ SXaass (fun _ => ?_)
          clear hK K SXaas
          refine wpAnyH_done (by kernel_rfl) ?_ _
          go_simp
          try simp only [Act.put]
          go_wp2_with fail
          go_meet
          exact ⟨g1, g2, rfl, rfl, G10aass, G20aass, O0aass, X0aass, T0aass⟩
  case rest =>
    obtain ⟨g1, g2, rfl, rfl, G1, G2, O4, X4, T4⟩ := hcut
    have KL := Lib.hid (load_any i N F S n l 60 #[.pointer (some ⟨g, 0, none⟩), .pointer (some ⟨go, 0, none⟩), .pointer (some ⟨g1, 0, none⟩), .pointer (some ⟨g2, 0, none⟩)] (fun k => needWB k sz o en la) wc (HH.out.after T4.out) HHF.out enters_write (fun k W hk1 hk2 hb => needW_any g go g1 g2 sz o en la k W ((X4.out.after hb).cell 2) ((O4.out.after hb).cell 0) ((G1.out.after hb).cell 0) ((G2.out.after hb).cell 0) ⟨hk1, by have := HSZ.out; omega⟩ hl (by omega) hen7))
    rw [← HSZ.out] at KL
    have x0 : wc.cell? ⟨g, 0, none⟩ = some (.pointer (some ⟨i.q, 0, none⟩)) := X4.out.cell 0
    have x1 : wc.cell? ⟨g, 1, none⟩ = some (.int .i64 n) := X4.out.cell 1
    have x2 : wc.cell? ⟨g, 2, none⟩ = some (.int .i64 (sz : Int)) := X4.out.cell 2
    have z0 := zeroT
    obtain ⟨L, hL⟩ : ∃ L, L = loadL l (fun k => needWB k sz o en la) 6 := ⟨_, rfl⟩
    rw [← hL] at KL
    have HLL := Lib.hid hL
    have HLN : Hid (L.length = 768) := Lib.hid (by rw [hL]; exact tab_length _)
    have HBL : Hid ((bv L).length = 768) := Lib.hid (by rw [bv_length]; exact HLN.out)
    have HNZ : Hid ((bv tz).length = 768) := Lib.hid (by rw [bv_length]; exact tab_length _)
    have HSG : Hid (segSet (bv tz) 0 (bv L) = bv L) := Lib.hid (segSet_all (by rw [HBL.out, HNZ.out]))
    have HIL : Hid (0 + 768 ≤ (bv tz).length) := Lib.hid (by rw [HNZ.out]; exact Nat.le_refl _)
    clear hL c0 c2 c0d c2d O3 X3 T3
    go_upto_region 14 with (first
      | (go_at_call 48; (with_reducible refine KL.out.mono ?_); rintro e w6 ⟨rfl, b6⟩; have S6 : Hid (w.heap.size ≤ w6.heap.size) := Lib.hid (T4.out.trans (b6.mono T4.out.size)).size; have T6 := Lib.hid ((T4.out.trans (b6.mono T4.out.size)).alloc (T4.out.trans (b6.mono T4.out.size)).size (.cells (cl tz) 105)); have O6 := Lib.hid ((O4.out.after b6).alloc (.cells (cl tz) 105)); have X6 := Lib.hid ((X4.out.after b6).alloc (.cells (cl tz) 105)); have E6 := Lib.hid ((G1.out.after b6).alloc (.cells (cl tz) 105)); have A6 : Hid (Blk (w6.alloc (.cells (cl tz) 105)) w6.heap.size 105 (bv tz)) := Lib.hid (heap_alloc_new w6 _); have L6 : Hid (go < w6.heap.size ∧ g < w6.heap.size ∧ g1 < w6.heap.size) := Lib.hid ⟨(O4.out.after b6).lt, (X4.out.after b6).lt, (G1.out.after b6).lt⟩; clear b6 x0 x1 x2 O4 X4 G1 G2 T4)
      | (refine wpl_seg_store sizeT (.tmp 13) (.tmp 48) rfl rfl A6.out 0 (bv L) HBL.out HIL.out (fun v hv => bv_one hv) rfl rfl _ HSG.out ?_; intro w7 A7' g7 e7; have A7 := Lib.hid A7'; have O7 := Lib.hid (O6.out.grown g7 (by simp only [ne_eq, Option.some.injEq]; have := L6.out; omega)); have X7 := Lib.hid (X6.out.grown g7 (by simp only [ne_eq, Option.some.injEq]; have := L6.out; omega)); have E7 := Lib.hid (E6.out.grown g7 (by simp only [ne_eq, Option.some.injEq]; have := L6.out; omega)); have T7 := Lib.hid (T6.out.grown g7 T6.out.size (fun q e => by cases e; exact S6.out)); clear A7' g7 e7 A6 O6 X6 E6 T6))
    have q1 : o < 768 := by omega
    have q2 : (o : Int) ≤ 768 := by omega
    have q3 : ¬ 768 = o := by omega
    have c7 : w7.cell? ⟨go, 0, none⟩ = some (.int .i64 (o : Int)) := O7.out.cell 0
    have HVB : Hid (Bytes w7 w7.heap.size (.slice DA d DC) dl) := Lib.hid (by have := (HV.out.below T7.out).more T7.out.size; rwa [← HDD.out] at this)
    have HTK : Hid (dl.take (768 - o) = dl) := Lib.hid (List.take_of_length_le (by rw [← HDD.out]; omega))
    have HFT : Hid (o + dl.length ≤ L.length) := Lib.hid (by rw [HLN.out, ← HDD.out]; exact hb)
    have HLY : Hid (lay L o dl = tab (wrF l (fun k => needWB k sz o en la) o dl)) := Lib.hid (by rw [HLL.out]; exact lay_tab (by rw [← HDD.out]; exact hb))
    go_upto_region 15 with (refine wpl_copy byteTys rfl (.tmp 54) (.tmp 55) rfl A7.out o (768 - o) (768 - o) rfl _ rfl _ HVB.out HTK.out HFT.out d HDD.out.symm ?_; intro w8 h8 g8 s8; have A8 : Hid (Blk w8 w6.heap.size 105 (bv (lay L o dl))) := h8; have O8 := Lib.hid (O7.out.grown g8 (by simp only [ne_eq, Option.some.injEq]; have := L6.out; omega)); have X8 := Lib.hid (X7.out.grown g8 (by simp only [ne_eq, Option.some.injEq]; have := L6.out; omega)); have E8 := Lib.hid (E7.out.grown g8 (by simp only [ne_eq, Option.some.injEq]; have := L6.out; omega)); have T8 := Lib.hid (T7.out.grown g8 T7.out.size (fun q e => by cases e; exact S6.out)); clear h8 g8 s8)
    rw [HLY.out] at A8
    obtain ⟨fr, hfr⟩ : ∃ fr, fr = min o sz := ⟨_, rfl⟩
    obtain ⟨ns, hns⟩ : ∃ ns, ns = max en sz := ⟨_, rfl⟩
    have m2 : min (o : Int) (sz : Int) = (fr : Int) := by omega
    have m3 : max (en : Int) (sz : Int) = (ns : Int) := by omega
    have KP : Hid (Calls Try.prog 59 #[.agg #[.pointer (some ⟨i.q, 0, none⟩), .int .i64 n, .int .i64 (sz : Int)], .agg (cl (tab (wrF l (fun k => needWB k sz o en la) o dl))), .int .i64 (fr : Int), .int .i64 (en : Int), .int .i64 (ns : Int)] w8 fun e w' => PutR w i N F (F.put n (some (.file (writeL l o dl)))) S e w') := Lib.hid (by
      have hd' : 0 < dl.length := by rw [← HDD.out]; exact hd
      have hl' : l.length ≤ 768 := by rw [← HSZ.out]; exact hl
      have e1 : en = o + dl.length := by rw [HEN.out, HDD.out]
      have hwl := writeL_len l o dl
      have hb' : o + dl.length ≤ 768 := by rw [← HDD.out]; exact hb
      have := fput_any i N F S n l (writeL l o dl) (wrF l (fun k => needWB k sz o en la) o dl) fr en w8 (HH.out.after T8.out) HHF.out hN (by rw [hwl]; omega) (by rw [hwl]; omega) (by omega)
        (by rw [hfr, HSZ.out, e1, HLA.out, HSZ.out]; exact wr_new hl' hd') (by rw [hfr, HSZ.out, e1]; exact wr_same hd')
      rw [hwl, show max l.length (o + dl.length) = ns by rw [hns, e1, HSZ.out]; omega, ← HSZ.out] at this
      exact this.mono fun e w' hr => hr.lift T8.out)
    obtain ⟨WL, hWL⟩ : ∃ WL, WL = tab (wrF l (fun k => needWB k sz o en la) o dl) := ⟨_, rfl⟩
    rw [← hWL] at KP A8
    have HW : Hid ((bv WL).length = 768 ∧ ((bv WL).drop 0).take 768 = bv WL) := Lib.hid (by
      have h1 : (bv WL).length = 768 := by rw [hWL, bv_length]; exact tab_length _
      exact ⟨h1, by rw [List.drop_zero]; exact List.take_of_length_le (Nat.le_of_eq h1)⟩)
    have y0 : w8.cell? ⟨g, 0, none⟩ = some (.pointer (some ⟨i.q, 0, none⟩)) := X8.out.cell 0
    have y1 : w8.cell? ⟨g, 1, none⟩ = some (.int .i64 n) := X8.out.cell 1
    have y2 : w8.cell? ⟨g, 2, none⟩ = some (.int .i64 (sz : Int)) := X8.out.cell 2
    have y3 : w8.cell? ⟨go, 0, none⟩ = some (.int .i64 (o : Int)) := O8.out.cell 0
    have y4 : w8.cell? ⟨g1, 0, none⟩ = some (.int .i64 (en : Int)) := E8.out.cell 0
    clear hWL hfr hns HLY HH HHF KC KL
    go_wp2_with (first
      | (refine wpl_seg_load aggT sizeT (.tmp 13) rfl rfl A8.out 0 (bv WL) HW.out.2 HW.out.1 rfl ?_)
      | (go_at_call 59; (refine KP.out.mono ?_); rintro e w9 (⟨h1, rfl, h2⟩ | ⟨h1, rfl, h2⟩)))
    · go_ret
      exact .inl ⟨h1, rfl, h2⟩
    · go_ret
      exact .inr ⟨h1, rfl, h2⟩
end Go.Proofs.Ytppodbijdhcclaa

