/- speaks of layer 19. No condition. -/
import Derived.Test.YtppodbijdhcclaaQCacheNone
import Derived.Test.YtppodbijdhcclaaQCachePut
namespace Go.Proofs.Ytppodbijdhcclaa
open Go Go.RowKit Go.Maps
def em : List ByteArray := List.replicate 256 ByteArray.empty
def fa : List Bool := List.replicate 256 false
theorem em_len : em.length = 256 := List.length_replicate
theorem fa_len : fa.length = 256 := List.length_replicate
def nodCells (mo : Int) : List Value := em.map Value.string ++ (fa.map Value.bool ++ [Value.int .i64 mo])
theorem zeroNod (w : World) : (zeroValue 32).run Try.prog w = .ok (.agg (nodCells 0).toArray) w := by kernel_rfl
theorem nod_len (mo : Int) : (nodCells mo).length = 513 := by simp only [nodCells, List.length_append, List.length_map, em_len, fa_len, List.length_cons, List.length_nil]
theorem nod_set (x mo : Int) : (nodCells x).set 512 (.int .i64 mo) = nodCells mo := by
  unfold nodCells
  rw [List.set_append_right _ _ (by rw [List.length_map, em_len]; omega), List.length_map, em_len, List.set_append_right _ _ (by rw [List.length_map, fa_len]; omega), List.length_map, fa_len]
  rfl
theorem nod_src (w : World) (mo : Int) : Src (w.alloc (.cells (nodCells mo).toArray 32)) w.heap.size em fa mo :=
  ⟨heap_alloc_last w _, em_len, fa_len⟩
theorem src_zero : srcTo fa 256 = lzeros := by kernel_rfl
theorem cntL_congr {M L : List UInt8} (h : ∀ k, k < 256 → hasB M k = hasB L k) : cntL M = cntL L := by
  unfold cntL keysTo
  rw [List.filter_congr (fun k hk => h k (by simpa using hk))]
theorem cntL_lhas {M L : List UInt8} (h : ∀ z, lhas M z = lhas L z) : cntL M = cntL L := cntL_congr (fun k hk => by rw [← lhas_nat M hk, ← lhas_nat L hk, h])
theorem lhas_zeros : lhas lzeros 5 = false := by kernel_rfl
theorem lhas_lzeros (z : Int) : lhas lzeros z = false := by
  unfold lhas hasB
  have : (lzeros.getD (z.toNat / 8) 0) = 0 := by
    rw [List.getD_eq_getElem?_getD]
    unfold lzeros
    rw [List.getElem?_replicate]
    split <;> rfl
  rw [this]
  simp
theorem cnt_five : cntL (lput lzeros true 5) = 1 := by kernel_rfl
theorem cnt_zero : cntL lzeros = 0 := by kernel_rfl
/-- a slice of one change -/
theorem one_rows (w : World) (x : CV) : Chs (w.alloc (.cells #[.int .i64 x.k, .bool x.g, .slice x.A x.n x.c] 46)) (w.alloc (.cells #[.int .i64 x.k, .bool x.g, .slice x.A x.n x.c] 46)).heap.size (.slice (some ⟨w.heap.size, 0, none⟩) 1 1) [x] := chs_one (Blk.new3c w _ _ _ _)
theorem bod_nil (w : World) (B : Nat) (k : Int) (g : Bool) : BodL w B [⟨k, g, none, 0, 0⟩] [[]] := ⟨rfl, fun i x hx => by
  cases i with
  | zero =>
    cases hx
    exact ⟨none, 0, rfl, Nat.le_refl _, Nat.zero_le _, Row.nil⟩
  | succ i => cases hx⟩
theorem right_one (k : Int) (g : Bool) (hk : 0 ≤ k ∧ k < 256) : rightC lzeros [⟨k, g, none, 0, 0⟩] = true := by
  unfold rightC
  rw [if_pos ⟨by unfold fitC; simp; omega, lhas_lzeros k⟩]
  rfl
/-- one change without a body is put, where there is room -/
theorem put_one (q m s N : Nat) (f : Int → Option CV) (D : DataW Value) (S : Nat → Prop) (P : Int → Option CE) (bs : List ByteArray) (th : List Bool) (mo : Int) (k : Int) (g : Bool) (w : World)
    (hq : Cc w q m s) (hs : Src w s bs th mo) (hm : w.ownsMap Try.prog 3 chR m N D) (hf : MpD D f) (hp : Tells w S f P) (hS : ∀ b, S b → b ≠ m) (hk : 0 ≤ k ∧ k < 256) (hN : N ≤ 1000000)
    (hn : ∀ M, M.length = 32 → (∀ z, lhas M z = liveF f (srcTo th 256) z) → ¬ (mo < cntL (lput M (!g) k) ∧ cntL M < cntL (lput M (!g) k))) :
    Calls Try.prog 19 #[.pointer (some ⟨q, 0, none⟩), .slice (some ⟨w.heap.size, 0, none⟩) 1 1] (w.alloc (.cells #[.int .i64 k, .bool g, .slice none 0 0] 46)) fun e w' =>
      e = .returned (.int .i64 0) ∧ (w.alloc (.cells #[.int .i64 k, .bool g, .slice none 0 0] 46)).grownBy w' (some m) ∧ ∃ f2 D2, w'.ownsMap Try.prog 3 chR m (N + 1) D2 ∧ MpD D2 f2 ∧ (∀ z, (f2 z).map (fun x => x.g) = if z = k then some g else (f z).map (fun x => x.g)) ∧ Tells w' (fun b => S b ∨ w.heap.size + 1 ≤ b) f2 (putP P k g []) := by
  have hb := (Below.refl w.heap.size w).alloc (Nat.le_refl _) (.cells #[.int .i64 k, .bool g, .slice none 0 0] 46)
  refine (put_any q m s N f D S P bs th mo (.slice (some ⟨w.heap.size, 0, none⟩) 1 1) [⟨k, g, none, 0, 0⟩] [[]] _ (Blk.alloc hq _) (hs.after hb) (hm.alloc _) hf (hp.grown (only_of_below hb none) (by simp)) hS (one_rows w ⟨k, g, none, 0, 0⟩) (bod_nil _ _ k g) (by simp) hN).mono ?_
  rintro e w' (⟨h, _⟩ | ⟨_, M, h1, h2, (⟨h3, _⟩ | ⟨_, h4, h5, f2, D2, h6, h7, h8⟩)⟩)
  · rw [right_one k g hk] at h
    cases h
  · exact absurd h3 (hn M h1 h2)
  · rw [World.size_alloc] at h8
    refine ⟨h4, h5, f2, D2, h6, h7, fun z => ?_, h8⟩
    have h9 := (h8 z).1
    rw [h9, (hp z).1]
    show (putP P k g [] z).map _ = _
    unfold putP
    split <;> rfl
set_option maxRecDepth 100000 in
set_option maxHeartbeats 8000000 in
theorem cspeaks_any (w : World) : Calls Try.prog 12 #[] w fun e w' => e = .returned (.bool true) ∧ Below w.heap.size w w' := by
  have zn := zeroNod
  have hl := nod_len 0
  have hs := nod_set 0 9
  have S1 := Lib.hid (nod_src w 9)
  have H1 := Lib.hid ((Below.refl w.heap.size w).alloc (Nat.le_refl _) (.cells (nodCells 9).toArray 32))
  have KN := Lib.hid (new_any w.heap.size (w.alloc (.cells (nodCells 9).toArray 32)))
  go_enter Try.func12, Try.ntmps12
  go_upto_region 4 with ((with_reducible refine KN.out.mono ?_); rintro e w2 ⟨q, m, rfl, hq, hm, HC, HM, b2⟩; have C2 := Lib.hid HC; have M2 := Lib.hid HM; have S2 := Lib.hid (S1.out.after b2); have H2 := Lib.hid (H1.out.trans (b2.mono H1.out.size)); have QM := Lib.hid (And.intro (Nat.le_trans H1.out.size hq) (Nat.le_trans H1.out.size hm)); clear KN b2 HC HM hq hm S1 H1)
  have NE : Hid (q ≠ m ∧ w.heap.size ≠ m ∧ m < w2.heap.size) := Lib.hid ⟨neMap C2.out M2.out, neMap S2.out.1 M2.out, M2.out.lt⟩
  have K1 := Lib.hid (put_one q m w.heap.size 0 (fun _ => none) (.map []) (fun _ => False) (fun _ => none) em fa 9 5 false w2 C2.out S2.out M2.out MpD.start (fun z => ⟨rfl, fun x e h => by cases h⟩) (fun b h => h.elim) (by omega) (by omega) (fun M hM hz => by
    have e1 : cntL (lput M (!false) 5) = 1 := by
      rw [← cnt_five]
      refine cntL_lhas (fun z => ?_)
      rw [lhas_lput hM, lhas_lput lzeros_length, hz z]
      show (if _ then _ else lhas (srcTo fa 256) z) = _
      rw [src_zero]
      rfl
    rw [e1]
    omega))
  have C3 := Lib.hid (Blk.alloc C2.out (.cells #[.int .i64 5, .bool false, .slice none 0 0] 46))
  have S3 := Lib.hid (S2.out.after ((Below.refl w2.heap.size w2).alloc (Nat.le_refl _) (.cells #[.int .i64 5, .bool false, .slice none 0 0] 46)))
  have H3 := Lib.hid (H2.out.alloc H2.out.size (.cells #[.int .i64 5, .bool false, .slice none 0 0] 46))
  have K2 : Hid (∀ w4, (w2.alloc (.cells #[.int .i64 5, .bool false, .slice none 0 0] 46)).grownBy w4 (some m) → (∃ f2 D2, w4.ownsMap Try.prog 3 chR m (0 + 1) D2 ∧ MpD D2 f2 ∧ (∀ z, (f2 z).map (fun x => x.g) = if z = 5 then some false else none) ∧ Tells w4 (fun b => False ∨ w2.heap.size + 1 ≤ b) f2 (putP (fun _ => none) 5 false [])) →
      Calls Try.prog 19 #[.pointer (some ⟨q, 0, none⟩), .slice (some ⟨w4.heap.size, 0, none⟩) 1 1] (w4.alloc (.cells #[.int .i64 5, .bool true, .slice none 0 0] 46)) fun e w' => e = .returned (.int .i64 0) ∧ (w4.alloc (.cells #[.int .i64 5, .bool true, .slice none 0 0] 46)).grownBy w' (some m) ∧ ∃ f2 D2, w'.ownsMap Try.prog 3 chR m (0 + 1 + 1) D2 ∧ MpD D2 f2 ∧ (∀ z x, f2 z = some x → x.g = true)) := Lib.hid (fun w4 g4 ⟨f2, D2, h1, h2, h3, h4⟩ => by
    refine (put_one q m w.heap.size (0 + 1) f2 D2 _ _ em fa 9 5 true w4 (Blk.grown C3.out g4 (by simp only [ne_eq, Option.some.injEq]; exact NE.out.1)) (S3.out.grown g4 (by simp only [ne_eq, Option.some.injEq]; exact NE.out.2.1)) h1 h2 h4 (fun b h => by rcases h with h | h; exact h.elim; have := NE.out.2.2; omega) (by omega) (by omega) (fun M hM hz => by
      have e1 : cntL (lput M (!true) 5) = 0 := by
        rw [← cnt_zero]
        refine cntL_lhas (fun z => ?_)
        rw [lhas_lput hM, lhas_lzeros, hz z]
        by_cases e : z = 5
        · rw [if_pos ⟨e, by omega⟩]; rfl
        · rw [if_neg (fun h => e h.1)]
          have := h3 z
          rw [if_neg e] at this
          have hn : f2 z = none := by
            cases hh : f2 z with
            | none => rfl
            | some x => rw [hh] at this; cases this
          unfold liveF
          rw [hn, src_zero]
          exact lhas_lzeros z
      rw [e1]
      omega)).mono (fun e w' h => ?_)
    obtain ⟨a1, a2, f3, D3, a3, a4, a5, _⟩ := h
    refine ⟨a1, a2, f3, D3, a3, a4, fun z x hx => ?_⟩
    have h5 := a5 z
    rw [h3 z, hx] at h5
    by_cases e : z = 5
    · rw [if_pos e] at h5
      cases x
      simpa using h5
    · rw [if_neg e, if_neg e] at h5
      cases h5)
  clear M2 C2 S2 H2
  go_upto_region 5 with (first
    | ((with_reducible refine K1.out.mono ?_); rintro e w4 ⟨rfl, g4, hf4⟩; have G4 := Lib.hid g4; have KK := Lib.hid (K2.out w4 g4 hf4); clear K1 K2 g4 hf4)
    | ((with_reducible refine KK.out.mono ?_); rintro e w6 ⟨rfl, g6, hf6⟩; have G6 := Lib.hid g6; have HF6 := Lib.hid hf6; clear KK g6 hf6))
  have C4 := Lib.hid (Blk.alloc (Blk.grown C3.out G4.out (by simp only [ne_eq, Option.some.injEq]; exact NE.out.1)) (.cells #[.int .i64 5, .bool true, .slice none 0 0] 46))
  have S4 := S3.out.grown G4.out (by simp only [ne_eq, Option.some.injEq]; exact NE.out.2.1)
  have S5 := Lib.hid (S4.after ((Below.refl w4.heap.size w4).alloc (Nat.le_refl _) (.cells #[.int .i64 5, .bool true, .slice none 0 0] 46)))
  have H4 := H3.out.grown G4.out H3.out.size (fun k e => by cases e; exact QM.out.2)
  have H5 := H4.alloc H4.size (.cells #[.int .i64 5, .bool true, .slice none 0 0] 46)
  have H6 := Lib.hid (H5.grown G6.out H5.size (fun k e => by cases e; exact QM.out.2))
  obtain ⟨f6, D6, m6, hf6, hg6⟩ := HF6.out
  have KC := Lib.hid (changes_none q m w.heap.size _ f6 D6 em fa 9 w6 (Blk.grown C4.out G6.out (by simp only [ne_eq, Option.some.injEq]; exact NE.out.1)) (S5.out.grown G6.out (by simp only [ne_eq, Option.some.injEq]; exact NE.out.2.1)) m6 hf6 (fun z x hx => ⟨hg6 z x hx, by rw [src_zero]; exact lhas_lzeros z⟩))
  clear S4 H4 H5 C4 S5 C3 S3 H3 G4 G6 HF6 m6 hf6 hg6
  go_wp2_with ((with_reducible refine KC.out.mono ?_); rintro e w7 ⟨rfl, b7⟩; have H7 := Lib.hid (H6.out.trans (b7.mono H6.out.size)); clear KC b7)
  go_ret
  exact ⟨rfl, H7.out⟩
end Go.Proofs.Ytppodbijdhcclaa

