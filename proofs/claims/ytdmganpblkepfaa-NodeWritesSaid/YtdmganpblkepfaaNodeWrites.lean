/- The walk of NodeWrites: it answers true, and changes nothing that was there. No condition. -/
import Derived.Test.YtdmganpblkepfaaNodeSpeaks
import Derived.Test.YtdmganpblkepfaaAppendBy
import Derived.Test.YtdmganpblkepfaaNodeSame
import Derived.Test.YtdmganpblkepfaaNodeOpen
import Derived.Test.YtdmganpblkepfaaNodeRefRead
namespace Go.Proofs.Ytdmganpblkepfaa
open Go.RowKit
theorem set3 {B b : Nat} {a w : World} {x y z : Value} (h : Below B a w) (hb : B ≤ b) : Below B a (((w.setCell ⟨b, 0, none⟩ x).setCell ⟨b, 1, none⟩ y).setCell ⟨b, 2, none⟩ z) :=
  ((h.setCell (p := ⟨b, 0, none⟩) hb x).setCell (p := ⟨b, 1, none⟩) hb y).setCell (p := ⟨b, 2, none⟩) hb z
theorem own_ne_blk {w : World} {B b : Nat} {v : Value} {l : List UInt8} {cs : List Value} (h : Own 5 w B v l) (hb : Blk w b 25 cs) : ∀ g, v.ownBlock = some g → g ≠ b := by
  intro g hg e
  subst e
  rcases h.2 with ⟨rfl, _⟩ | ⟨g', cap, cur, rfl, x1, x2, x3, x4, x5⟩
  · cases hg
  · cases hg
    unfold Blk at hb
    simp [hb] at *
theorem set3_bytes {w : World} {b B c : Nat} {A : Option Addr} {l : List UInt8} {x y z : Value} (h : Own 5 w B (.slice A l.length c) l) (hl : l.length ≤ maxLen) (hb : ∀ g, (.slice A l.length c : Value).ownBlock = some g → g ≠ b) :
    Bytes (((w.setCell ⟨b, 0, none⟩ x).setCell ⟨b, 1, none⟩ y).setCell ⟨b, 2, none⟩ z) (((w.setCell ⟨b, 0, none⟩ x).setCell ⟨b, 1, none⟩ y).setCell ⟨b, 2, none⟩ z).heap.size (.slice A l.length c) l := by
  have hg := only_trans (only_trans (only_set w ⟨b, 0, none⟩ x) (only_set _ ⟨b, 1, none⟩ y)) (only_set _ ⟨b, 2, none⟩ z)
  refine (h.kept hg ?_).bytes hl
  rcases hx : (.slice A l.length c : Value).ownBlock with _ | g
  · exact .inl rfl
  · exact .inr fun e => hb g hx (by cases e; rfl)
set_option maxRecDepth 100000 in
set_option maxHeartbeats 4000000 in
theorem nodeWrites_any (u : Value) (w : World) (hn : ∃ n, IsNode w w.heap.size u n) :
    Calls Try.prog 3 #[u] w fun e w' => e = .returned (.bool true) ∧ Below w.heap.size w w' := by
  obtain ⟨⟨k, e, v, l⟩, h1, h2, h3, h4⟩ := hn
  obtain rfl := h1
  simp only at h2 h3 h4 ⊢
  obtain ⟨A, c, rfl, hc, hm, hr⟩ := id h4
  have HV := Lib.hid h4
  have HE := Lib.hid h3
  unfold maxLen at hm
  clear h4 hr h3 h2
  have b1 := Lib.hid ((Below.refl w.heap.size w).alloc (Nat.le_refl _) (.cells #[.int .i64 k, .int .u64 (e : Int), .slice A l.length c] 25))
  have B1 := Lib.hid (show Blk (w.alloc (.cells #[.int .i64 k, .int .u64 (e : Int), .slice A l.length c] 25)) w.heap.size 25 [.int .i64 k, .int .u64 (e : Int), .slice A l.length c] from heap_alloc_new w _)
  by_cases hl : 500 < l.length
  · have d1 : decide ((500 : Int) < (l.length : Int)) = true := by simp; omega
    go_enter Try.func3, Try.ntmps3
    go_wp2_with fail
    refine (nodespeaks_any _).mono ?_
    rintro e' w2 ⟨rfl, hb2⟩
    have B2 := B1.out.after hb2
    have c2 := B2.cell 2
    simp only [List.getElem?_cons_zero, List.getElem?_cons_succ] at c2
    have T2 := Lib.hid (b1.out.trans (hb2.mono b1.out.size))
    clear B2 hb2
    go_wp2
    go_ret
    exact ⟨rfl, T2.out⟩
  · have d1 : decide ((500 : Int) < (l.length : Int)) = false := by simp; omega
    go_enter Try.func3, Try.ntmps3
    go_wp2_with fail
    refine (nodespeaks_any _).mono ?_
    rintro e' w2 ⟨rfl, hb2⟩
    have B2 := Lib.hid (B1.out.after hb2)
    have c0 := B2.out.cell 0
    have c1 := B2.out.cell 1
    have c2 := B2.out.cell 2
    simp only [List.getElem?_cons_zero, List.getElem?_cons_succ] at c0 c1 c2
    have T2 := Lib.hid (b1.out.trans (hb2.mono b1.out.size))
    have V2 := Lib.hid ((HV.out.below T2.out).more T2.out.size)
    clear hb2
    go_wp2_with fail
    obtain ⟨g, hg⟩ : ∃ g, g = w.heap.size := ⟨_, rfl⟩
    rw [← hg] at c0 c1 c2 B2 ⊢
    have HG := Lib.hid hg
    clear hg
    have E0 : Hid (∀ w', Below w2.heap.size w2 w' → Own 5 (w'.alloc (.cells #[] 5)) w2.heap.size (.slice (some ⟨w'.heap.size, 0, none⟩) 0 0) []) := Lib.hid fun w' h => Own.made (e := 5) (base := w2.heap.size) #[] 0 h.size (by simp) rfl w'.heap.size rfl
    have KS : Hid (∀ w', Below w2.heap.size w2 w' → w'.cell? ⟨g, 0, none⟩ = some (.int .i64 k) ∧ w'.cell? ⟨g, 1, none⟩ = some (.int .u64 (e : Int)) ∧ w'.cell? ⟨g, 2, none⟩ = some (.slice A l.length c)) := Lib.hid fun w' h => ⟨(h.cell (p := ⟨g, 0, none⟩) B2.out.lt).trans c0, (h.cell (p := ⟨g, 1, none⟩) B2.out.lt).trans c1, (h.cell (p := ⟨g, 2, none⟩) B2.out.lt).trans c2⟩
    have R2 := Below.refl w2.heap.size w2
    have OA : Hid (Own 5 (w2.alloc (.cells #[] 5)).drew w2.heap.size (.slice (some ⟨w2.heap.size, 0, none⟩) 0 0) []) := Lib.hid (E0.out w2 R2)
    have OB : Hid (Own 5 ((w2.alloc (.cells #[] 5)).alloc (.cells #[.int .i64 0, .int .u64 0, .slice none 0 0] 25)).drew w2.heap.size (.slice (some ⟨w2.heap.size, 0, none⟩) 0 0) []) := Lib.hid ((E0.out w2 R2).alloc (.cells #[.int .i64 0, .int .u64 0, .slice none 0 0] 25))
    have OC : Hid (Own 5 ((w2.alloc (.cells #[.int .i64 0, .int .u64 0, .slice none 0 0] 25)).alloc (.cells #[] 5)).drew w2.heap.size (.slice (some ⟨w2.heap.size + 1, 0, none⟩) 0 0) []) := Lib.hid (by have h := E0.out _ (R2.alloc (Nat.le_refl _) (.cells #[.int .i64 0, .int .u64 0, .slice none 0 0] 25)); rw [World.size_alloc] at h; exact h)
    have TA : Hid (Below w2.heap.size w2 (w2.alloc (.cells #[] 5)).drew) := Lib.hid (R2.alloc (Nat.le_refl _) (.cells #[] 5)).drew
    have TB : Hid (Below w2.heap.size w2 ((w2.alloc (.cells #[] 5)).alloc (.cells #[.int .i64 0, .int .u64 0, .slice none 0 0] 25)).drew) := Lib.hid ((R2.alloc (Nat.le_refl _) (.cells #[] 5)).alloc (R2.alloc (Nat.le_refl _) (.cells #[] 5)).size (.cells #[.int .i64 0, .int .u64 0, .slice none 0 0] 25)).drew
    have TC : Hid (Below w2.heap.size w2 ((w2.alloc (.cells #[.int .i64 0, .int .u64 0, .slice none 0 0] 25)).alloc (.cells #[] 5)).drew) := Lib.hid ((R2.alloc (Nat.le_refl _) (.cells #[.int .i64 0, .int .u64 0, .slice none 0 0] 25)).alloc (R2.alloc (Nat.le_refl _) (.cells #[.int .i64 0, .int .u64 0, .slice none 0 0] 25)).size (.cells #[] 5)).drew
    have BB : Hid (Blk ((w2.alloc (.cells #[] 5)).alloc (.cells #[.int .i64 0, .int .u64 0, .slice none 0 0] 25)).drew (w2.heap.size + 1) 25 [.int .i64 0, .int .u64 0, .slice none 0 0]) := Lib.hid (by have h := heap_alloc_new (w2.alloc (.cells #[] 5)) (.cells #[.int .i64 0, .int .u64 0, .slice none 0 0] 25); rw [World.size_alloc] at h; exact h)
    have BC : Hid (Blk ((w2.alloc (.cells #[.int .i64 0, .int .u64 0, .slice none 0 0] 25)).alloc (.cells #[] 5)).drew w2.heap.size 25 [.int .i64 0, .int .u64 0, .slice none 0 0]) := Lib.hid ((show Blk (w2.alloc (.cells #[.int .i64 0, .int .u64 0, .slice none 0 0] 25)) w2.heap.size 25 [.int .i64 0, .int .u64 0, .slice none 0 0] from heap_alloc_new w2 _).alloc (.cells #[] 5))
    clear R2
    go_region_held3 (fun w' => w'.cell? ⟨g, 0, none⟩ = some (.int .i64 k) ∧ w'.cell? ⟨g, 1, none⟩ = some (.int .u64 (e : Int)) ∧ w'.cell? ⟨g, 2, none⟩ = some (.slice A l.length c))
      (first | go_keep | (exact KS.out _ T3.out) | (exact KS.out _ (T3.out.alloc T3.out.size _)) | (exact KS.out _ (set3 T3.out (Nat.le_succ _))) | (exact KS.out _ (set3 T3.out (Nat.le_refl _))))
      (first
        | ((refine step_append_bytes_by byteTys (by rfl) (.tmp 20) (.tmp 22) (by rfl) (by rfl) OA.out _ _ _ (by rfl) (V2.out.below TA.out) (by simp; omega) TA.out.size l.length (by simp) ?_; intro A3 c3 w3 O3 g3); have T3 := Lib.hid (TA.out.trans (OA.out.grown g3 TA.out.size)); have Q3 := Lib.hid O3; clear O3 g3)
        | ((refine step_append_bytes_by byteTys (by rfl) (.tmp 20) (.tmp 22) (by rfl) (by rfl) OB.out _ _ _ (by rfl) (V2.out.below TB.out) (by simp; omega) TB.out.size l.length (by simp) ?_; intro A3 c3 w3 O3 g3); have T3 := Lib.hid (TB.out.trans (OB.out.grown g3 TB.out.size)); have Q3 := Lib.hid O3; have BX := Lib.hid ((BB.out.grown g3 (by show (some (w2.heap.size + 1) : Option Nat) ≠ some w2.heap.size; simp))); have k30 := BX.out.cell 0; have k31 := BX.out.cell 1; have k32 := BX.out.cell 2; have f30 := BX.out.free 0; have f31 := BX.out.free 1; have f32 := BX.out.free 2; simp only [List.getElem?_cons_zero, List.getElem?_cons_succ] at k30 k31 k32; clear O3 g3)
        | ((refine step_append_bytes_by byteTys (by rfl) (.tmp 20) (.tmp 22) (by rfl) (by rfl) OC.out _ _ _ (by rfl) (V2.out.below TC.out) (by simp; omega) TC.out.size l.length (by simp) ?_; intro A3 c3 w3 O3 g3); have T3 := Lib.hid (TC.out.trans (OC.out.grown g3 TC.out.size)); have Q3 := Lib.hid O3; have BX := Lib.hid ((BC.out.grown g3 (by show (some w2.heap.size : Option Nat) ≠ some (w2.heap.size + 1); simp))); have k30 := BX.out.cell 0; have k31 := BX.out.cell 1; have k32 := BX.out.cell 2; have f30 := BX.out.free 0; have f31 := BX.out.free 1; have f32 := BX.out.free 2; simp only [List.getElem?_cons_zero, List.getElem?_cons_succ] at k30 k31 k32; clear O3 g3))
    have B6 : Hid (Blk (w3.alloc (.cells #[.int .i64 k, .int .u64 (e : Int), .slice A3 l.length c3] 25)) (w3.heap.size) 25 [.int .i64 k, .int .u64 (e : Int), .slice A3 l.length c3]) := Lib.hid (heap_alloc_new w3 _)
    have T6 : Hid (Below w2.heap.size w2 (w3.alloc (.cells #[.int .i64 k, .int .u64 (e : Int), .slice A3 l.length c3] 25))) := Lib.hid (T3.out.alloc T3.out.size _)
    have D6 : Hid (Bytes (w3.alloc (.cells #[.int .i64 k, .int .u64 (e : Int), .slice A3 l.length c3] 25)) (w3.alloc (.cells #[.int .i64 k, .int .u64 (e : Int), .slice A3 l.length c3] 25)).heap.size (.slice A3 l.length c3) l) := Lib.hid ((Q3.out.alloc _).bytes (by simp only [maxLen, List.nil_append]; omega))
    obtain ⟨gi, hgi⟩ : ∃ gi, gi = w3.heap.size := ⟨_, rfl⟩
    obtain ⟨W6, hW6⟩ : ∃ W6, W6 = w3.alloc (.cells #[.int .i64 k, .int .u64 (e : Int), .slice A3 l.length c3] 25) := ⟨_, rfl⟩
    rw [← hW6] at B6 T6 D6 ⊢
    rw [← hgi] at B6 ⊢
    clear hgi hW6 T3 Q3
    rotate_left 1
    have B6 : Hid (Blk (((w3.setCell ⟨w2.heap.size + 1, 0, none⟩ (.int .i64 k)).setCell ⟨w2.heap.size + 1, 1, none⟩ (.int .u64 (e : Int))).setCell ⟨w2.heap.size + 1, 2, none⟩ (.slice A3 l.length c3)) (w2.heap.size + 1) 25 [.int .i64 k, .int .u64 (e : Int), .slice A3 l.length c3]) := Lib.hid (((BX.out.set 0 (.int .i64 k)).set 1 (.int .u64 (e : Int))).set 2 (.slice A3 l.length c3))
    have T6 : Hid (Below w2.heap.size w2 (((w3.setCell ⟨w2.heap.size + 1, 0, none⟩ (.int .i64 k)).setCell ⟨w2.heap.size + 1, 1, none⟩ (.int .u64 (e : Int))).setCell ⟨w2.heap.size + 1, 2, none⟩ (.slice A3 l.length c3))) := Lib.hid (set3 T3.out (Nat.le_succ _))
    have D6 : Hid (Bytes (((w3.setCell ⟨w2.heap.size + 1, 0, none⟩ (.int .i64 k)).setCell ⟨w2.heap.size + 1, 1, none⟩ (.int .u64 (e : Int))).setCell ⟨w2.heap.size + 1, 2, none⟩ (.slice A3 l.length c3)) (((w3.setCell ⟨w2.heap.size + 1, 0, none⟩ (.int .i64 k)).setCell ⟨w2.heap.size + 1, 1, none⟩ (.int .u64 (e : Int))).setCell ⟨w2.heap.size + 1, 2, none⟩ (.slice A3 l.length c3)).heap.size (.slice A3 l.length c3) l) := Lib.hid (set3_bytes Q3.out (by simp only [maxLen]; omega) (own_ne_blk Q3.out BX.out))
    obtain ⟨gi, hgi⟩ : ∃ gi, gi = w2.heap.size + 1 := ⟨_, rfl⟩
    obtain ⟨W6, hW6⟩ : ∃ W6, W6 = ((w3.setCell ⟨w2.heap.size + 1, 0, none⟩ (.int .i64 k)).setCell ⟨w2.heap.size + 1, 1, none⟩ (.int .u64 (e : Int))).setCell ⟨w2.heap.size + 1, 2, none⟩ (.slice A3 l.length c3) := ⟨_, rfl⟩
    rw [← hW6] at B6 T6 D6 ⊢
    rw [← hgi] at B6 ⊢
    clear hgi hW6 T3 Q3
    rotate_left 1
    have B6 : Hid (Blk (((w3.setCell ⟨w2.heap.size, 0, none⟩ (.int .i64 k)).setCell ⟨w2.heap.size, 1, none⟩ (.int .u64 (e : Int))).setCell ⟨w2.heap.size, 2, none⟩ (.slice A3 l.length c3)) (w2.heap.size) 25 [.int .i64 k, .int .u64 (e : Int), .slice A3 l.length c3]) := Lib.hid (((BX.out.set 0 (.int .i64 k)).set 1 (.int .u64 (e : Int))).set 2 (.slice A3 l.length c3))
    have T6 : Hid (Below w2.heap.size w2 (((w3.setCell ⟨w2.heap.size, 0, none⟩ (.int .i64 k)).setCell ⟨w2.heap.size, 1, none⟩ (.int .u64 (e : Int))).setCell ⟨w2.heap.size, 2, none⟩ (.slice A3 l.length c3))) := Lib.hid (set3 T3.out (Nat.le_refl _))
    have D6 : Hid (Bytes (((w3.setCell ⟨w2.heap.size, 0, none⟩ (.int .i64 k)).setCell ⟨w2.heap.size, 1, none⟩ (.int .u64 (e : Int))).setCell ⟨w2.heap.size, 2, none⟩ (.slice A3 l.length c3)) (((w3.setCell ⟨w2.heap.size, 0, none⟩ (.int .i64 k)).setCell ⟨w2.heap.size, 1, none⟩ (.int .u64 (e : Int))).setCell ⟨w2.heap.size, 2, none⟩ (.slice A3 l.length c3)).heap.size (.slice A3 l.length c3) l) := Lib.hid (set3_bytes Q3.out (by simp only [maxLen]; omega) (own_ne_blk Q3.out BX.out))
    obtain ⟨gi, hgi⟩ : ∃ gi, gi = w2.heap.size := ⟨_, rfl⟩
    obtain ⟨W6, hW6⟩ : ∃ W6, W6 = ((w3.setCell ⟨w2.heap.size, 0, none⟩ (.int .i64 k)).setCell ⟨w2.heap.size, 1, none⟩ (.int .u64 (e : Int))).setCell ⟨w2.heap.size, 2, none⟩ (.slice A3 l.length c3) := ⟨_, rfl⟩
    rw [← hW6] at B6 T6 D6 ⊢
    rw [← hgi] at B6 ⊢
    clear hgi hW6 T3 Q3
    rotate_left 1
    all_goals
      clear c0 c1 c2 OA OB OC TA TB TC BB BC E0 KS
      have G6 := Lib.hid (B2.out.after T6.out)
      have V6 := Lib.hid ((V2.out.below T6.out).more T6.out.size)
      have T6b := Lib.hid (T2.out.trans (T6.out.mono T2.out.size))
      clear T6 T2 B2 V2
      by_cases hk : (0 ≤ k ∧ k ≤ 255) ∧ l.length ≤ 224
      · obtain ⟨⟨hk1, hk2⟩, hl2⟩ := hk
        obtain ⟨q, rfl⟩ : ∃ q : Nat, k = q := ⟨k.toNat, by omega⟩
        have hq : q < 256 := by omega
        clear hk1 hk2
        go_wp2_with (with_reducible refine wpl_seg_load aggNode sizeNode (.tmp 3) rfl rfl B6.out 0 [.int .i64 (q : Int), .int .u64 (e : Int), .slice A3 l.length c3] rfl rfl rfl ?_)
        ((with_reducible refine (nwrite_yes q e _ l _ hq D6.out hl2).mono ?_); rintro x7 w7 ⟨g7, c7, rfl, O7, h7⟩)
        have P7 := Lib.hid (O7.bytes (by rw [nb_length]; simp only [maxLen]; omega))
        have B7 := Lib.hid (B6.out.after h7)
        have G7 := Lib.hid (G6.out.after h7)
        have D7 := Lib.hid ((D6.out.below h7).more h7.size)
        have V7 := Lib.hid ((V6.out.below h7).more h7.size)
        have T7 := Lib.hid (T6b.out.trans (h7.mono T6b.out.size))
        clear O7 h7
        go_wp2_with (with_reducible refine wpl_seg_load aggNode sizeNode (.tmp 1) rfl rfl G7.out 0 [.int .i64 (q : Int), .int .u64 (e : Int), .slice A l.length c] rfl rfl rfl ?_)
        ((with_reducible refine (nrefwrite_yes q e _ l _ hq HE.out V7.out hl2).mono ?_); rintro x8 w8 ⟨A8, c8, rfl, O8, h8⟩)
        have P8 := Lib.hid (O8.bytes (by rw [nb_length]; simp only [maxLen]; omega))
        have P7b := Lib.hid ((P7.out.below h8).more h8.size)
        have B8 := Lib.hid (B7.out.after h8)
        have G8 := Lib.hid (G7.out.after h8)
        have D8 := Lib.hid ((D7.out.below h8).more h8.size)
        have V8 := Lib.hid ((V7.out.below h8).more h8.size)
        have T8 := Lib.hid (T7.out.trans (h8.mono T7.out.size))
        have S1 := str_of P7b.out
        have S2 := str_of P8.out
        clear O8 h8
        go_wp2_with (first | (with_reducible refine wpl_seg_load aggNode sizeNode (.tmp 3) rfl rfl B8.out 0 [.int .i64 (q : Int), .int .u64 (e : Int), .slice A3 l.length c3] rfl rfl rfl ?_) | (with_reducible refine wpl_seg_load aggNode sizeNode (.tmp 1) rfl rfl G8.out 0 [.int .i64 (q : Int), .int .u64 (e : Int), .slice A l.length c] rfl rfl rfl ?_))
        ((with_reducible refine (nsame_any q q e e _ _ l l _ _ _ D8.out V8.out (Nat.le_refl _) (Nat.le_refl _)).mono ?_); rintro x9 w9 ⟨rfl, h9⟩)
        rw [sameB_yes]
        have P9 := Lib.hid ((P7b.out.below h9).more h9.size)
        have B9 := Lib.hid (B8.out.after h9)
        have G9 := Lib.hid (G8.out.after h9)
        have D9 := Lib.hid ((D8.out.below h9).more h9.size)
        have V9 := Lib.hid ((V8.out.below h9).more h9.size)
        have T9 := Lib.hid (T8.out.trans (h9.mono T8.out.size))
        clear h9 S1 S2
        go_wp2_with fail
        ((with_reducible refine (nread_yes _ (nb q e l) _ P9.out (by rw [nb_length]; omega) (by rw [nb_length]; omega)).mono ?_); rintro x10 w10 ⟨g10, n10, c10, rfl, O10, h10⟩)
        obtain ⟨r1, r2, r3⟩ := read_nb q e l hq HE.out
        rw [r1, r2]
        rw [r3] at O10
        have HN10 := Lib.hid O10.len
        have P10 := Lib.hid (O10.bytes (by simp only [maxLen]; omega))
        have B10 := Lib.hid (B9.out.after h10)
        have G10 := Lib.hid (G9.out.after h10)
        have D10 := Lib.hid ((D9.out.below h10).more h10.size)
        have V10 := Lib.hid ((V9.out.below h10).more h10.size)
        have T10 := Lib.hid (T9.out.trans (h10.mono T9.out.size))
        clear O10 h10 r1 r2 r3
        have BN := Lib.hid (show Blk (w10.alloc (.cells #[.int .i64 (q : Int), .int .u64 (e : Int), .slice (some ⟨g10, 0, none⟩) n10 c10] 25)) w10.heap.size 25 [.int .i64 (q : Int), .int .u64 (e : Int), .slice (some ⟨g10, 0, none⟩) n10 c10] from heap_alloc_new w10 _)
        have G11 := Lib.hid (G10.out.alloc (.cells #[.int .i64 (q : Int), .int .u64 (e : Int), .slice (some ⟨g10, 0, none⟩) n10 c10] 25))
        have P11 := Lib.hid (P10.out.alloc (Nat.le_refl _) (.cells #[.int .i64 (q : Int), .int .u64 (e : Int), .slice (some ⟨g10, 0, none⟩) n10 c10] 25))
        have V11 := Lib.hid (V10.out.alloc (Nat.le_refl _) (.cells #[.int .i64 (q : Int), .int .u64 (e : Int), .slice (some ⟨g10, 0, none⟩) n10 c10] 25))
        have T11 := Lib.hid (T10.out.alloc T10.out.size (.cells #[.int .i64 (q : Int), .int .u64 (e : Int), .slice (some ⟨g10, 0, none⟩) n10 c10] 25))
        go_wp2_with (first | (with_reducible refine wpl_seg_load aggNode sizeNode (.tmp 8) rfl rfl BN.out 0 [.int .i64 (q : Int), .int .u64 (e : Int), .slice (some ⟨g10, 0, none⟩) n10 c10] rfl rfl rfl ?_) | (with_reducible refine wpl_seg_load aggNode sizeNode (.tmp 1) rfl rfl G11.out 0 [.int .i64 (q : Int), .int .u64 (e : Int), .slice A l.length c] rfl rfl rfl ?_))
        ((with_reducible refine (nsame_any q q e e _ _ l l _ _ _ P11.out V11.out (by rw [World.size_alloc]; omega) (by rw [World.size_alloc]; omega)).mono ?_); rintro x12 w12 ⟨rfl, h12⟩)
        rw [sameB_yes]
        have T12 := Lib.hid (T11.out.trans (h12.mono T11.out.size))
        clear h12
        go_wp2
        go_ret
        exact ⟨rfl, T12.out⟩
      · have hno : (k < 0 ∨ 255 < k) ∨ 224 < l.length := by omega
        go_wp2_with (with_reducible refine wpl_seg_load aggNode sizeNode (.tmp 3) rfl rfl B6.out 0 [.int .i64 k, .int .u64 (e : Int), .slice A3 l.length c3] rfl rfl rfl ?_)
        ((with_reducible refine (nwrite_no k e _ l _ D6.out hno).mono ?_); rintro x7 w7 ⟨rfl, h7⟩)
        have B7 := Lib.hid (B6.out.after h7)
        have G7 := Lib.hid (G6.out.after h7)
        have D7 := Lib.hid ((D6.out.below h7).more h7.size)
        have V7 := Lib.hid ((V6.out.below h7).more h7.size)
        have T7 := Lib.hid (T6b.out.trans (h7.mono T6b.out.size))
        clear h7
        go_wp2_with (with_reducible refine wpl_seg_load aggNode sizeNode (.tmp 1) rfl rfl G7.out 0 [.int .i64 k, .int .u64 (e : Int), .slice A l.length c] rfl rfl rfl ?_)
        ((with_reducible refine (nrefwrite_no k e _ l _ V7.out hno).mono ?_); rintro x8 w8 ⟨g8, rfl, h8⟩)
        have B8 := Lib.hid (B7.out.after h8)
        have G8 := Lib.hid (G7.out.after h8)
        have D8 := Lib.hid ((D7.out.below h8).more h8.size)
        have V8 := Lib.hid ((V7.out.below h8).more h8.size)
        have T8 := Lib.hid (T7.out.trans (h8.mono T7.out.size))
        have S1 := str_of (w := w8) (B := 0) (l := []) (v := .slice none 0 0) ⟨none, 0, rfl, by simp, by simp [maxLen], Row.nil⟩
        have S2 := str_of (w := w8) (B := 0) (l := []) (v := .slice (some ⟨g8, 0, none⟩) 0 0) ⟨_, 0, rfl, by simp, by simp [maxLen], Row.nil⟩
        clear h8
        go_wp2_with (first
          | (with_reducible refine wpl_seg_load aggNode sizeNode (.tmp 3) rfl rfl B8.out 0 [.int .i64 k, .int .u64 (e : Int), .slice A3 l.length c3] rfl rfl rfl ?_)
          | (with_reducible refine wpl_seg_load aggNode sizeNode (.tmp 1) rfl rfl G8.out 0 [.int .i64 k, .int .u64 (e : Int), .slice A l.length c] rfl rfl rfl ?_))
        ((with_reducible refine (nsame_any k k e e _ _ l l _ _ _ D8.out V8.out (Nat.le_refl _) (Nat.le_refl _)).mono ?_); rintro x9 w9 ⟨rfl, h9⟩)
        rw [sameB_yes]
        have T9 := Lib.hid (T8.out.trans (h9.mono T8.out.size))
        clear h9 S1 S2
        go_wp2
        go_ret
        exact ⟨rfl, T9.out⟩
end Go.Proofs.Ytdmganpblkepfaa
