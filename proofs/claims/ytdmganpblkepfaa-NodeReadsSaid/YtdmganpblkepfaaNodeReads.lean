/- The walk of NodeReads: it answers true, and changes nothing that was there. No condition. -/
import Derived.Test.YtdmganpblkepfaaNodeSpeaks
import Derived.Test.YtdmganpblkepfaaNodeSame
import Derived.Test.YtdmganpblkepfaaNodeRefRead
namespace Go.Proofs.Ytdmganpblkepfaa
open Go.RowKit
/-- bytes that are a node's -/
def isN (l : List UInt8) : Bool := decide (9 ≤ l.length ∧ l.length ≤ 233)
def rk (l : List UInt8) : Nat := if isN l then nkey l else 0
def re (l : List UInt8) : Nat := if isN l then nepoch l else 0
def rl (l : List UInt8) : List UInt8 := if isN l then l.drop 9 else []
def rr (l : List UInt8) : Nat := if isN l then 0 else 11
theorem nread_any (v : Value) (l : List UInt8) (w : World) (hv : Bytes w w.heap.size v l) :
    Calls Try.prog 16 #[v] w fun x w' => ∃ A c, x = .returned (.tuple #[.agg #[.int .i64 (rk l : Int), .int .u64 (re l : Int), .slice A (rl l).length c], .int .i64 (rr l : Int)]) ∧ Own 5 w' w.heap.size (.slice A (rl l).length c) (rl l) ∧ Below w.heap.size w w' := by
  by_cases h : 9 ≤ l.length ∧ l.length ≤ 233
  · have e : isN l = true := by simp [isN, h]
    unfold rk re rl rr
    rw [if_pos e, if_pos e, if_pos e, if_pos e]
    refine (nread_yes v l w hv h.1 h.2).mono ?_
    rintro x w' ⟨g, n, c, rfl, h1, h2⟩
    obtain rfl := h1.len
    exact ⟨_, c, rfl, h1, h2⟩
  · have e : ¬ (isN l = true) := by simpa [isN] using h
    unfold rk re rl rr
    rw [if_neg e, if_neg e, if_neg e, if_neg e]
    refine (nread_no v l w hv (by omega)).mono ?_
    rintro x w' ⟨rfl, h2⟩
    exact ⟨none, 0, rfl, Own.empty, h2⟩
theorem nrefread_any (v : Value) (l : List UInt8) (w : World) (hv : Bytes w w.heap.size v l) :
    Calls Try.prog 17 #[v] w fun x w' => ∃ A c, x = .returned (.tuple #[.agg #[.int .i64 (rk l : Int), .int .u64 (re l : Int), .slice A (rl l).length c], .int .i64 (rr l : Int)]) ∧ Own 5 w' w.heap.size (.slice A (rl l).length c) (rl l) ∧ Below w.heap.size w w' := by
  by_cases h : 9 ≤ l.length ∧ l.length ≤ 233
  · have e : isN l = true := by simp [isN, h]
    unfold rk re rl rr
    rw [if_pos e, if_pos e, if_pos e, if_pos e]
    refine (nrefread_yes v l w hv h.1 h.2).mono ?_
    rintro x w' ⟨g, n, c, rfl, h1, h2⟩
    obtain rfl := h1.len
    exact ⟨_, c, rfl, h1, h2⟩
  · have e : ¬ (isN l = true) := by simpa [isN] using h
    unfold rk re rl rr
    rw [if_neg e, if_neg e, if_neg e, if_neg e]
    refine (nrefread_no v l w hv (by omega)).mono ?_
    rintro x w' ⟨rfl, h2⟩
    exact ⟨none, 0, rfl, Own.empty, h2⟩
theorem Own.other_row {e : TypeId} {w w' : World} {B : Nat} {v u : Value} {l : List UInt8} (h : Own e w B v l) (hu : ∀ x, u.ownBlock = some x → x < B) (hg : w.grownBy w' u.ownBlock) : Own e w' B v l := by
  refine h.kept hg ?_
  rcases hx : v.ownBlock with _ | x
  · exact .inl rfl
  · refine .inr fun e => ?_
    have h1 := (World.ownsRow.lt h x hx).1
    have h2 := hu x e.symm
    omega
theorem Blk.other_row {w w' : World} {b : Nat} {t : TypeId} {cs : List Value} {u : Value} (h : Blk w b t cs) (hu : ∀ x, u.ownBlock = some x → x < b) (hg : w.grownBy w' u.ownBlock) : Blk w' b t cs :=
  h.grown hg fun e => Nat.lt_irrefl _ (hu b e.symm)
set_option maxRecDepth 100000 in
set_option maxHeartbeats 4000000 in
theorem nodeReads_any (v : Value) (w : World) (hn : ∃ l, Bytes w w.heap.size v l) :
    Calls Try.prog 4 #[v] w fun e w' => e = .returned (.bool true) ∧ Below w.heap.size w w' := by
  obtain ⟨l, h4⟩ := hn
  obtain ⟨A, c, rfl, hc, hm, hr⟩ := id h4
  have HV := Lib.hid h4
  unfold maxLen at hm
  clear h4 hr
  by_cases hl : 1000 < l.length
  · have d1 : decide ((1000 : Int) < (l.length : Int)) = true := by simp; omega
    go_enter Try.func4, Try.ntmps4
    go_wp2_with fail
    refine (nodespeaks_any _).mono ?_
    rintro e' w2 ⟨rfl, hb2⟩
    go_wp2
    go_ret
    exact ⟨rfl, hb2⟩
  · have d1 : decide ((1000 : Int) < (l.length : Int)) = false := by simp; omega
    go_enter Try.func4, Try.ntmps4
    go_wp2_with fail
    refine (nodespeaks_any _).mono ?_
    rintro e' w1 ⟨rfl, hb1⟩
    have hb2 := hb1.alloc hb1.size (.cells #[] 5)
    have O2 := Own.made (e := 5) (base := w.heap.size) #[] 0 hb1.size (by simp) rfl w1.heap.size rfl
    have hz2 := hb2.size
    have D2 := Lib.hid (HV.out.below hb2)
    go_wp2_with (at_builtin; refine wpl_append_bytes byteTys rfl (.tmp 16) (.tmp 17) rfl rfl O2 _ _ _ rfl D2.out (by simp; omega) hz2 l.length (by simp) ?_; intro A3 c3 w3 O3 g3 h3; rw [List.nil_append] at O3; have T3 := Lib.hid (hb2.trans g3); have Q3 := Lib.hid O3; have D3 := Lib.hid (O3.bytes (by simp only [maxLen]; omega)); clear O3 g3 h3)
    clear O2 hz2 D2 hb2 hb1
    ((with_reducible refine (nread_any _ l _ D3.out).mono ?_); rintro x4 w4 ⟨A4, c4, rfl, O4, h4⟩)
    obtain ⟨kk, hkk⟩ : ∃ kk, kk = rk l := ⟨_, rfl⟩
    obtain ⟨ee, hee⟩ : ∃ ee, ee = re l := ⟨_, rfl⟩
    obtain ⟨ll, hll⟩ : ∃ ll, ll = rl l := ⟨_, rfl⟩
    obtain ⟨er, her⟩ : ∃ er, er = rr l := ⟨_, rfl⟩
    have KR := fun (v : Value) (w : World) (hv : Bytes w w.heap.size v l) => nrefread_any v l w hv
    rw [← hkk, ← hee, ← hll, ← her] at KR ⊢
    rw [← hll] at O4
    have HKK := Lib.hid hkk
    have HEE := Lib.hid hee
    have HLL := Lib.hid hll
    have HER := Lib.hid her
    have hlk : ll.length ≤ 1000 := by rw [hll]; unfold rl; split <;> simp <;> omega
    clear hkk hee hll her
    have hin : Hid (∀ x, (.slice A3 l.length c3 : Value).ownBlock = some x → x < w3.heap.size) := Lib.hid fun x hx => (World.ownsRow.lt Q3.out x hx).2
    have T4 := Lib.hid (T3.out.trans (h4.mono T3.out.size))
    have Q4 := Lib.hid (Q3.out.below h4)
    have Z4 := Lib.hid h4.size
    have N4 := Lib.hid O4
    have B5 := Lib.hid (show Blk (w4.alloc (.cells #[.int .i64 (kk : Int), .int .u64 (ee : Int), .slice A4 ll.length c4] 25)) w4.heap.size 25 [.int .i64 (kk : Int), .int .u64 (ee : Int), .slice A4 ll.length c4] from heap_alloc_new w4 _)
    have N5 := Lib.hid (O4.alloc (.cells #[.int .i64 (kk : Int), .int .u64 (ee : Int), .slice A4 ll.length c4] 25))
    have Q5 := Lib.hid (Q4.out.alloc (.cells #[.int .i64 (kk : Int), .int .u64 (ee : Int), .slice A4 ll.length c4] 25))
    have T5 := Lib.hid (T4.out.alloc T4.out.size (.cells #[.int .i64 (kk : Int), .int .u64 (ee : Int), .slice A4 ll.length c4] 25))
    clear O4 h4 N4 D3
    go_wp2_with fail
    obtain ⟨gn, hgn⟩ : ∃ gn, gn = w4.heap.size := ⟨_, rfl⟩
    obtain ⟨W5, hW5⟩ : ∃ W5, W5 = w4.alloc (.cells #[.int .i64 (kk : Int), .int .u64 (ee : Int), .slice A4 ll.length c4] 25) := ⟨_, rfl⟩
    rw [← hgn] at B5 ⊢
    rw [← hW5] at B5 N5 Q5 T5 ⊢
    have Zn := Lib.hid (show w3.heap.size ≤ gn by have := Z4.out; omega)
    clear hgn hW5
    have V5 := Lib.hid ((HV.out.below T5.out).more T5.out.size)
    ((with_reducible refine (KR _ _ V5.out).mono ?_); rintro x6 w6 ⟨A6, c6, rfl, O6, h6⟩)
    have T6 := Lib.hid (T5.out.trans (h6.mono T5.out.size))
    have Q6 := Lib.hid (Q5.out.below h6)
    have N6 := Lib.hid (N5.out.below h6)
    have B6 := Lib.hid (B5.out.after h6)
    have R7 := Lib.hid (O6.alloc (.cells #[.int .i64 (kk : Int), .int .u64 (ee : Int), .slice A6 ll.length c6] 25))
    have T7 := Lib.hid (T6.out.alloc T6.out.size (.cells #[.int .i64 (kk : Int), .int .u64 (ee : Int), .slice A6 ll.length c6] 25))
    have Q7 := Lib.hid (Q6.out.alloc (.cells #[.int .i64 (kk : Int), .int .u64 (ee : Int), .slice A6 ll.length c6] 25))
    have N7 := Lib.hid (N6.out.alloc (.cells #[.int .i64 (kk : Int), .int .u64 (ee : Int), .slice A6 ll.length c6] 25))
    have B7 := Lib.hid (B6.out.alloc (.cells #[.int .i64 (kk : Int), .int .u64 (ee : Int), .slice A6 ll.length c6] 25))
    have C7 := Lib.hid (show Blk (w6.alloc (.cells #[.int .i64 (kk : Int), .int .u64 (ee : Int), .slice A6 ll.length c6] 25)) w6.heap.size 25 [.int .i64 (kk : Int), .int .u64 (ee : Int), .slice A6 ll.length c6] from heap_alloc_new w6 _)
    have hz5 := B5.out.lt
    have hz6 := h6.size
    clear O6 h6 KR
    go_wp2_with fail
    obtain ⟨gr, hgr⟩ : ∃ gr, gr = w6.heap.size := ⟨_, rfl⟩
    obtain ⟨W7, hW7⟩ : ∃ W7, W7 = w6.alloc (.cells #[.int .i64 (kk : Int), .int .u64 (ee : Int), .slice A6 ll.length c6] 25) := ⟨_, rfl⟩
    rw [← hgr] at C7 ⊢
    rw [← hW7] at B7 C7 N7 R7 Q7 T7 ⊢
    have Zr := Lib.hid (show w3.heap.size ≤ gr ∧ w3.heap.size ≤ W5.heap.size by have := Zn.out; omega)
    clear hgr hW7 hz5 hz6 N6 B6 Q6 T6 V5 B5 N5 Q5 T5
    go_loopw [31] (fun i wr => ∃ k : Nat, k ≤ l.length ∧ i = .int .i64 k ∧ ∃ l', Hid (Own 5 wr w.heap.size (.slice A3 l.length c3) l') ∧ Hid (l'.length = l.length) ∧ Hid (W7.grownBy wr (.slice A3 l.length c3 : Value).ownBlock) ∧ Hid (Below w.heap.size w wr)) (fun i _ => l.length - (intOf i).toNat)
    case atStart => exact ⟨0, Nat.zero_le _, rfl, l, Q7, Lib.hid rfl, Lib.hid (World.grownBy.refl _ _), T7⟩
    case round =>
      rename_i wr
      obtain ⟨k, hk, rfl, l', hO, hl', hG, hbr⟩ := hrel
      by_cases hlt : k < l.length
      · obtain ⟨gi, rfl, hgi, _⟩ := hO.out.addr (by rw [hl'.out]; omega)
        have cc := hO.out.cell (List.getElem?_eq_getElem (by rw [hl'.out]; exact hlt))
        have cf := hO.out.free k
        go_wp2
        clear cc cf
        go_roundw
        case rel => exact ⟨k + 1, by omega, by go_num, _, Lib.hid (hO.out.set k 238), Lib.hid (by rw [List.length_set]; exact hl'.out), Lib.hid (only_trans hG.out (only_set _ ⟨gi, k, none⟩ _)), Lib.hid (hbr.out.setCell hgi _)⟩
        case measure => simp [intOf]; omega
      · have B8 := Lib.hid (B7.out.other_row (fun x hx => Nat.lt_of_lt_of_le (hin.out x hx) Zn.out) hG.out)
        have C8 := Lib.hid (C7.out.other_row (fun x hx => Nat.lt_of_lt_of_le (hin.out x hx) Zr.out.1) hG.out)
        have N8 := Lib.hid ((N7.out.other_row hin.out hG.out).bytes (by simp only [maxLen]; omega))
        have R8 := Lib.hid ((R7.out.other_row (fun x hx => Nat.lt_of_lt_of_le (hin.out x hx) Zr.out.2) hG.out).bytes (by simp only [maxLen]; omega))
        have V8 := Lib.hid ((HV.out.below hbr.out).more hbr.out.size)
        clear B7 C7 N7 R7 Q7 T7 hO hl' hG
        go_wp2_with (first | (with_reducible refine wpl_seg_load aggNode sizeNode (.tmp 4) rfl rfl B8.out 0 [.int .i64 (kk : Int), .int .u64 (ee : Int), .slice A4 ll.length c4] rfl rfl rfl ?_) | (with_reducible refine wpl_seg_load aggNode sizeNode (.tmp 6) rfl rfl C8.out 0 [.int .i64 (kk : Int), .int .u64 (ee : Int), .slice A6 ll.length c6] rfl rfl rfl ?_))
        ((with_reducible refine (nsame_any kk kk ee ee _ _ ll ll _ _ _ N8.out R8.out (Nat.le_refl _) (Nat.le_refl _)).mono ?_); rintro x9 w9 ⟨rfl, h9⟩)
        rw [sameB_yes]
        have T9 := Lib.hid (hbr.out.trans (h9.mono hbr.out.size))
        have B9 := Lib.hid (B8.out.after h9)
        have N9 := Lib.hid ((N8.out.below h9).more h9.size)
        have V9 := Lib.hid ((V8.out.below h9).more h9.size)
        clear h9 B8 C8 N8 R8 V8
        by_cases hN : isN l = true
        · obtain rfl : er = 0 := by rw [HER.out, rr, if_pos hN]
          have h9l : 9 ≤ l.length ∧ l.length ≤ 233 := by simpa [isN] using hN
          have hnb : Hid (nb kk ee ll = l) := Lib.hid (by rw [HKK.out, HEE.out, HLL.out, rk, re, rl, if_pos hN, if_pos hN, if_pos hN]; exact nb_read l h9l.1)
          have hk2 : kk < 256 := by rw [HKK.out, rk, if_pos hN]; exact nkey_lt l
          have hl2 : ll.length ≤ 224 := by rw [HLL.out, rl, if_pos hN, List.length_drop]; omega
          clear hN h9l
          go_wp2_with (with_reducible refine wpl_seg_load aggNode sizeNode (.tmp 4) rfl rfl B9.out 0 [.int .i64 (kk : Int), .int .u64 (ee : Int), .slice A4 ll.length c4] rfl rfl rfl ?_)
          ((with_reducible refine (nwrite_yes kk ee _ ll _ hk2 N9.out hl2).mono ?_); rintro x10 w10 ⟨g10, c10, rfl, O10, h10⟩)
          rw [hnb.out] at O10
          have P10 := O10.bytes (by simp only [maxLen]; omega)
          have V10 := V9.out.below h10
          have S1 := str_of P10
          have S2 := str_of V10
          have T10 := Lib.hid (T9.out.trans (h10.mono T9.out.size))
          clear O10 P10 V10 h10
          go_wp2
          go_ret
          exact ⟨rfl, T10.out⟩
        · obtain rfl : er = 11 := by rw [HER.out, rr, if_neg hN]
          clear hN
          go_wp2
          go_ret
          exact ⟨rfl, T9.out⟩
end Go.Proofs.Ytdmganpblkepfaa
