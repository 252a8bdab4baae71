/- Several texts of the proof, joined: what each has is said at its head. -/
import Derived.Test.YtppodbijdhcclaaQCacheJC
import Derived.Test.YtppodbijdhcclaaQCacheJD
import Derived.Test.YtppodbijdhcclaaQCacheClear
import Derived.Deep.DeepCutAuto
/- speaks of layer 19. No condition. -/
namespace Go.Proofs.Ytppodbijdhcclaa
open Go Go.RowKit Go.Maps
def em : List ByteArray := List.replicate 256 ByteArray.empty
def fa : List Bool := List.replicate 256 false
theorem em_len : em.length = 256 := List.length_replicate
theorem fa_len : fa.length = 256 := List.length_replicate
def nodCells (mo : Int) : List Value := em.map Value.string ++ (fa.map Value.bool ++ [Value.int .i64 mo])
theorem zeroNod (w : World) : (zeroValue 32).run Try.prog w = .ok (.agg (nodCells 0).toArray) w := by kernel_rfl
theorem nod_len (mo : Int) : (nodCells mo).length = 513 := by simp only [nodCells, List.length_append, List.length_map, em_len, fa_len, List.length_cons, List.length_nil]
theorem nod_set (x mo : Int) : (nodCells x).set 512 (.int .i64 mo) = nodCells mo := by
  unfold nodCells
  rw [List.set_append_right _ _ (by rw [List.length_map, em_len]; omega), List.length_map, em_len, List.set_append_right _ _ (by rw [List.length_map, fa_len]; omega), List.length_map, fa_len]
  rfl
theorem nod_src (w : World) (mo : Int) : Src (w.alloc (.cells (nodCells mo).toArray 32)) w.heap.size em fa mo :=
  ⟨heap_alloc_last w _, em_len, fa_len⟩
theorem src_zero : srcTo fa 256 = lzeros := by kernel_rfl
theorem cntL_congr {M L : List UInt8} (h : ∀ k, k < 256 → hasB M k = hasB L k) : cntL M = cntL L := by
  unfold cntL keysTo
  rw [List.filter_congr (fun k hk => h k (by simpa using hk))]
theorem cntL_lhas {M L : List UInt8} (h : ∀ z, lhas M z = lhas L z) : cntL M = cntL L := cntL_congr (fun k hk => by rw [← lhas_nat M hk, ← lhas_nat L hk, h])
theorem lhas_zeros : lhas lzeros 5 = false := by kernel_rfl
theorem lhas_lzeros (z : Int) : lhas lzeros z = false := by
  unfold lhas hasB
  have : (lzeros.getD (z.toNat / 8) 0) = 0 := by
    rw [List.getD_eq_getElem?_getD]
    unfold lzeros
    rw [List.getElem?_replicate]
    split <;> rfl
  rw [this]
  simp
theorem cnt_five : cntL (lput lzeros true 5) = 1 := by kernel_rfl
theorem cnt_zero : cntL lzeros = 0 := by kernel_rfl
/-- a slice of one change -/
theorem one_rows (w : World) (x : CV) : Chs (w.alloc (.cells #[.int .i64 x.k, .bool x.g, .slice x.A x.n x.c] 46)) (w.alloc (.cells #[.int .i64 x.k, .bool x.g, .slice x.A x.n x.c] 46)).heap.size (.slice (some ⟨w.heap.size, 0, none⟩) 1 1) [x] := chs_one (Blk.new3c w _ _ _ _)
theorem bod_nil (w : World) (B : Nat) (k : Int) (g : Bool) : BodL w B [⟨k, g, none, 0, 0⟩] [[]] := ⟨rfl, fun i x hx => by
  cases i with
  | zero =>
    cases hx
    exact ⟨none, 0, rfl, Nat.le_refl _, Nat.zero_le _, Row.nil⟩
  | succ i => cases hx⟩
theorem right_one (k : Int) (g : Bool) (hk : 0 ≤ k ∧ k < 256) : rightC lzeros [⟨k, g, none, 0, 0⟩] = true := by
  unfold rightC
  rw [if_pos ⟨by unfold fitC; simp; omega, lhas_lzeros k⟩]
  rfl
/-- one change without a body is put, where there is room -/
theorem put_one (q m s N : Nat) (f : Int → Option CV) (D : DataW Value) (S : Nat → Prop) (P : Int → Option CE) (bs : List ByteArray) (th : List Bool) (mo : Int) (k : Int) (g : Bool) (w : World)
    (hq : Cc w q m s) (hs : Src w s bs th mo) (hm : w.ownsMap Try.prog 3 chR m N D) (hf : MpD D f) (hp : Tells w S f P) (hS : ∀ b, S b → b ≠ m) (hk : 0 ≤ k ∧ k < 256) (hN : N ≤ 1000000)
    (hn : ∀ M, M.length = 32 → (∀ z, lhas M z = liveF f (srcTo th 256) z) → ¬ (mo < cntL (lput M (!g) k) ∧ cntL M < cntL (lput M (!g) k))) :
    Calls Try.prog 19 #[.pointer (some ⟨q, 0, none⟩), .slice (some ⟨w.heap.size, 0, none⟩) 1 1] (w.alloc (.cells #[.int .i64 k, .bool g, .slice none 0 0] 46)) fun e w' =>
      e = .returned (.int .i64 0) ∧ (w.alloc (.cells #[.int .i64 k, .bool g, .slice none 0 0] 46)).grownBy w' (some m) ∧ ∃ f2 D2, w'.ownsMap Try.prog 3 chR m (N + 1) D2 ∧ MpD D2 f2 ∧ (∀ z, (f2 z).map (fun x => x.g) = if z = k then some g else (f z).map (fun x => x.g)) ∧ Tells w' (fun b => S b ∨ w.heap.size + 1 ≤ b) f2 (putP P k g []) := by
  have hb := (Below.refl w.heap.size w).alloc (Nat.le_refl _) (.cells #[.int .i64 k, .bool g, .slice none 0 0] 46)
  refine (put_any q m s N f D S P bs th mo (.slice (some ⟨w.heap.size, 0, none⟩) 1 1) [⟨k, g, none, 0, 0⟩] [[]] _ (Blk.alloc hq _) (hs.after hb) (hm.alloc _) hf (hp.grown (only_of_below hb none) (by simp)) hS (one_rows w ⟨k, g, none, 0, 0⟩) (bod_nil _ _ k g) (by simp) hN).mono ?_
  rintro e w' (⟨h, _⟩ | ⟨_, M, h1, h2, (⟨h3, _⟩ | ⟨_, h4, h5, f2, D2, h6, h7, h8⟩)⟩)
  · rw [right_one k g hk] at h
    cases h
  · exact absurd h3 (hn M h1 h2)
  · rw [World.size_alloc] at h8
    refine ⟨h4, h5, f2, D2, h6, h7, fun z => ?_, h8⟩
    have h9 := (h8 z).1
    rw [h9, (hp z).1]
    show (putP P k g [] z).map _ = _
    unfold putP
    split <;> rfl
set_option maxRecDepth 100000 in
set_option maxHeartbeats 8000000 in
theorem cspeaks_any (w : World) : Calls Try.prog 12 #[] w fun e w' => e = .returned (.bool true) ∧ Below w.heap.size w w' := by
  have zn := zeroNod
  have hl := nod_len 0
  have hs := nod_set 0 9
  have S1 := Lib.hid (nod_src w 9)
  have H1 := Lib.hid ((Below.refl w.heap.size w).alloc (Nat.le_refl _) (.cells (nodCells 9).toArray 32))
  have KN := Lib.hid (new_any w.heap.size (w.alloc (.cells (nodCells 9).toArray 32)))
  go_enter Try.func12, Try.ntmps12
  go_upto_region 4 with ((with_reducible refine KN.out.mono ?_); rintro e w2 ⟨q, m, rfl, hq, hm, HC, HM, b2⟩; have C2 := Lib.hid HC; have M2 := Lib.hid HM; have S2 := Lib.hid (S1.out.after b2); have H2 := Lib.hid (H1.out.trans (b2.mono H1.out.size)); have QM := Lib.hid (And.intro (Nat.le_trans H1.out.size hq) (Nat.le_trans H1.out.size hm)); clear KN b2 HC HM hq hm S1 H1)
  have NE : Hid (q ≠ m ∧ w.heap.size ≠ m ∧ m < w2.heap.size) := Lib.hid ⟨neMap C2.out M2.out, neMap S2.out.1 M2.out, M2.out.lt⟩
  have K1 := Lib.hid (put_one q m w.heap.size 0 (fun _ => none) (.map []) (fun _ => False) (fun _ => none) em fa 9 5 false w2 C2.out S2.out M2.out MpD.start (fun z => ⟨rfl, fun x e h => by cases h⟩) (fun b h => h.elim) (by omega) (by omega) (fun M hM hz => by
    have e1 : cntL (lput M (!false) 5) = 1 := by
      rw [← cnt_five]
      refine cntL_lhas (fun z => ?_)
      rw [lhas_lput hM, lhas_lput lzeros_length, hz z]
      show (if _ then _ else lhas (srcTo fa 256) z) = _
      rw [src_zero]
      rfl
    rw [e1]
    omega))
  have C3 := Lib.hid (Blk.alloc C2.out (.cells #[.int .i64 5, .bool false, .slice none 0 0] 46))
  have S3 := Lib.hid (S2.out.after ((Below.refl w2.heap.size w2).alloc (Nat.le_refl _) (.cells #[.int .i64 5, .bool false, .slice none 0 0] 46)))
  have H3 := Lib.hid (H2.out.alloc H2.out.size (.cells #[.int .i64 5, .bool false, .slice none 0 0] 46))
  have K2 : Hid (∀ w4, (w2.alloc (.cells #[.int .i64 5, .bool false, .slice none 0 0] 46)).grownBy w4 (some m) → (∃ f2 D2, w4.ownsMap Try.prog 3 chR m (0 + 1) D2 ∧ MpD D2 f2 ∧ (∀ z, (f2 z).map (fun x => x.g) = if z = 5 then some false else none) ∧ Tells w4 (fun b => False ∨ w2.heap.size + 1 ≤ b) f2 (putP (fun _ => none) 5 false [])) →
      Calls Try.prog 19 #[.pointer (some ⟨q, 0, none⟩), .slice (some ⟨w4.heap.size, 0, none⟩) 1 1] (w4.alloc (.cells #[.int .i64 5, .bool true, .slice none 0 0] 46)) fun e w' => e = .returned (.int .i64 0) ∧ (w4.alloc (.cells #[.int .i64 5, .bool true, .slice none 0 0] 46)).grownBy w' (some m) ∧ ∃ f2 D2, w'.ownsMap Try.prog 3 chR m (0 + 1 + 1) D2 ∧ MpD D2 f2 ∧ (∀ z x, f2 z = some x → x.g = true)) := Lib.hid (fun w4 g4 ⟨f2, D2, h1, h2, h3, h4⟩ => by
    refine (put_one q m w.heap.size (0 + 1) f2 D2 _ _ em fa 9 5 true w4 (Blk.grown C3.out g4 (by simp only [ne_eq, Option.some.injEq]; exact NE.out.1)) (S3.out.grown g4 (by simp only [ne_eq, Option.some.injEq]; exact NE.out.2.1)) h1 h2 h4 (fun b h => by rcases h with h | h; exact h.elim; have := NE.out.2.2; omega) (by omega) (by omega) (fun M hM hz => by
      have e1 : cntL (lput M (!true) 5) = 0 := by
        rw [← cnt_zero]
        refine cntL_lhas (fun z => ?_)
        rw [lhas_lput hM, lhas_lzeros, hz z]
        by_cases e : z = 5
        · rw [if_pos ⟨e, by omega⟩]; rfl
        · rw [if_neg (fun h => e h.1)]
          have := h3 z
          rw [if_neg e] at this
          have hn : f2 z = none := by
            cases hh : f2 z with
            | none => rfl
            | some x => rw [hh] at this; cases this
          unfold liveF
          rw [hn, src_zero]
          exact lhas_lzeros z
      rw [e1]
      omega)).mono (fun e w' h => ?_)
    obtain ⟨a1, a2, f3, D3, a3, a4, a5, _⟩ := h
    refine ⟨a1, a2, f3, D3, a3, a4, fun z x hx => ?_⟩
    have h5 := a5 z
    rw [h3 z, hx] at h5
    by_cases e : z = 5
    · rw [if_pos e] at h5
      cases x
      simpa using h5
    · rw [if_neg e, if_neg e] at h5
      cases h5)
  clear M2 C2 S2 H2
  go_upto_region 5 with (first
    | ((with_reducible refine K1.out.mono ?_); rintro e w4 ⟨rfl, g4, hf4⟩; have G4 := Lib.hid g4; have KK := Lib.hid (K2.out w4 g4 hf4); clear K1 K2 g4 hf4)
    | ((with_reducible refine KK.out.mono ?_); rintro e w6 ⟨rfl, g6, hf6⟩; have G6 := Lib.hid g6; have HF6 := Lib.hid hf6; clear KK g6 hf6))
  have C4 := Lib.hid (Blk.alloc (Blk.grown C3.out G4.out (by simp only [ne_eq, Option.some.injEq]; exact NE.out.1)) (.cells #[.int .i64 5, .bool true, .slice none 0 0] 46))
  have S4 := S3.out.grown G4.out (by simp only [ne_eq, Option.some.injEq]; exact NE.out.2.1)
  have S5 := Lib.hid (S4.after ((Below.refl w4.heap.size w4).alloc (Nat.le_refl _) (.cells #[.int .i64 5, .bool true, .slice none 0 0] 46)))
  have H4 := H3.out.grown G4.out H3.out.size (fun k e => by cases e; exact QM.out.2)
  have H5 := H4.alloc H4.size (.cells #[.int .i64 5, .bool true, .slice none 0 0] 46)
  have H6 := Lib.hid (H5.grown G6.out H5.size (fun k e => by cases e; exact QM.out.2))
  obtain ⟨f6, D6, m6, hf6, hg6⟩ := HF6.out
  have KC := Lib.hid (changes_none q m w.heap.size _ f6 D6 em fa 9 w6 (Blk.grown C4.out G6.out (by simp only [ne_eq, Option.some.injEq]; exact NE.out.1)) (S5.out.grown G6.out (by simp only [ne_eq, Option.some.injEq]; exact NE.out.2.1)) m6 hf6 (fun z x hx => ⟨hg6 z x hx, by rw [src_zero]; exact lhas_lzeros z⟩))
  clear S4 H4 H5 C4 S5 C3 S3 H3 G4 G6 HF6 m6 hf6 hg6
  go_wp2_with ((with_reducible refine KC.out.mono ?_); rintro e w7 ⟨rfl, b7⟩; have H7 := Lib.hid (H6.out.trans (b7.mono H6.out.size)); clear KC b7)
  go_ret
  exact ⟨rfl, H7.out⟩
end Go.Proofs.Ytppodbijdhcclaa

/- What CacheAtOnce needs, plainly. No condition. -/
namespace Go.Proofs.Ytppodbijdhcclaa
open Go Go.RowKit
theorem byte_testBit {a b : UInt8} (h : ∀ r, r < 8 → a.toNat.testBit r = b.toNat.testBit r) : a = b := by
  apply UInt8.toNat_inj.1
  apply Nat.eq_of_testBit_eq
  intro i
  by_cases hi : i < 8
  · exact h i hi
  · have e : ∀ x : UInt8, x.toNat.testBit i = false := fun x => Nat.testBit_lt_two_pow (Nat.lt_of_lt_of_le x.toNat_lt (by
      have : (2 : Nat) ^ 8 ≤ 2 ^ i := Nat.pow_le_pow_right (by omega) (by omega)
      omega))
    rw [e, e]
/-- sets that agree everywhere are one -/
theorem live_ext {L M : List UInt8} (hL : L.length = 32) (hM : M.length = 32) (h : ∀ z, lhas L z = lhas M z) : L = M := by
  refine List.ext_getElem (by rw [hL, hM]) (fun i h1 h2 => byte_testBit (fun r hr => ?_))
  have := h ((8 * i + r : Nat) : Int)
  rw [lhas_nat L (by omega), lhas_nat M (by omega)] at this
  unfold hasB at this
  rw [show (8 * i + r) / 8 = i by omega, show (8 * i + r) % 8 = r by omega] at this
  simpa [List.getD_eq_getElem?_getD, List.getElem?_eq_getElem h1, List.getElem?_eq_getElem h2] using this
theorem kg_get {cs ds : List CV} (h : cs.map kg = ds.map kg) (k : Nat) : (cs.getD k ⟨0, false, none, 0, 0⟩).k = (ds.getD k ⟨0, false, none, 0, 0⟩).k ∧ (cs.getD k ⟨0, false, none, 0, 0⟩).g = (ds.getD k ⟨0, false, none, 0, 0⟩).g := by
  have h1 : (cs.map kg)[k]? = (ds.map kg)[k]? := by rw [h]
  rw [List.getElem?_map, List.getElem?_map] at h1
  rw [List.getD_eq_getElem?_getD, List.getD_eq_getElem?_getD]
  cases hc : cs[k]? with
  | none =>
    rw [hc] at h1
    cases hd : ds[k]? with
    | none => exact ⟨rfl, rfl⟩
    | some y => rw [hd] at h1; cases h1
  | some x =>
    rw [hc] at h1
    cases hd : ds[k]? with
    | none => rw [hd] at h1; cases h1
    | some y =>
      rw [hd] at h1
      simp only [Option.map_some, Option.some.injEq, kg, Prod.mk.injEq] at h1
      exact ⟨h1.1, h1.2⟩
theorem putTo_kg {cs ds : List CV} (P : Int → Option CE) (ls : List (List UInt8)) (h : cs.map kg = ds.map kg) : ∀ k, putTo P cs ls k = putTo P ds ls k
  | 0 => rfl
  | k + 1 => by
    show putP (putTo P cs ls k) _ _ _ = putP (putTo P ds ls k) _ _ _
    rw [putTo_kg P ls h k, (kg_get h k).1, (kg_get h k).2]
theorem filter_or_len (p q : Nat → Bool) (j : Nat) (h : ∀ k, k ≠ j → p k = q k) : ∀ n, ((List.range n).filter p).length ≤ ((List.range n).filter q).length + if j < n then 1 else 0
  | 0 => by simp
  | n + 1 => by
    have ih := filter_or_len p q j h n
    rw [List.range_succ, List.filter_append, List.filter_append, List.length_append, List.length_append]
    by_cases e : n = j
    · subst e
      rw [if_neg (by omega)] at ih
      rw [if_pos (by omega)]
      have h1 : ([n].filter p).length ≤ 1 := List.length_filter_le _ _
      omega
    · have h2 : [n].filter p = [n].filter q := by rw [List.filter_cons, List.filter_cons, h n e]; rfl
      rw [h2]
      by_cases h3 : j < n
      · rw [if_pos h3] at ih; rw [if_pos (by omega)]; omega
      · rw [if_neg h3] at ih; rw [if_neg (by omega)]; omega
theorem cntP_put (th : List Bool) (P : Int → Option CE) (k : Int) (g : Bool) (l : List UInt8) : cntP (liveP th (putP P k g l)) ≤ cntP (liveP th P) + 1 := by
  unfold cntP
  have h := filter_or_len (fun i : Nat => liveP th (putP P k g l) (i : Int)) (fun i : Nat => liveP th P (i : Int)) k.toNat (fun i hi => by
    unfold liveP putP
    rw [if_neg (by omega)]) 256
  refine Nat.le_trans h ?_
  split <;> omega
theorem cntP_putTo (th : List Bool) (P : Int → Option CE) (cs : List CV) (ls : List (List UInt8)) : ∀ k, cntP (liveP th (putTo P cs ls k)) ≤ cntP (liveP th P) + k
  | 0 => Nat.le_refl _
  | k + 1 => by
    have h := cntP_putTo th P cs ls k
    have h2 := cntP_put th (putTo P cs ls k) (cs.getD k ⟨0, false, none, 0, 0⟩).k (cs.getD k ⟨0, false, none, 0, 0⟩).g (ls.getD k [])
    show cntP (liveP th (putP _ _ _ _)) ≤ _
    omega
theorem cntP_fa : cntP (liveP fa (fun _ => none)) = 0 := by
  unfold cntP
  have : (List.range 256).filter (fun k : Nat => liveP fa (fun _ => none) (k : Int)) = [] := List.filter_eq_nil_iff.2 (fun k hk => by
    have hk2 : k < 256 := by simpa using hk
    unfold liveP
    dsimp only
    rw [Int.toNat_natCast]
    unfold fa
    rw [List.getD_eq_getElem?_getD, List.getElem?_replicate, if_pos hk2]
    simp)
  rw [this]
  rfl
theorem chgTo_none (th : List Bool) : ∀ k, chgTo th (fun _ => none) k = []
  | 0 => rfl
  | k + 1 => by rw [chgTo_no (fun e h => by cases h), chgTo_none th k]
theorem rightC_one {x : CV} (h : (0 ≤ x.k ∧ x.k < 256) ∧ x.n ≤ 224) : rightC lzeros [x] = true := by
  unfold rightC
  rw [if_pos ⟨by unfold fitC; simp [h.1, h.2], lhas_lzeros x.k⟩]
  rfl
theorem ChOwn.n_eq {w : World} {base : Nat} {v : Value} {cs : List CV} {ls : List (List UInt8)} (h : ChOwn w base v cs ls) {i : Nat} {x : CV} (hx : cs[i]? = some x) : x.n = (ls.getD i []).length := by
  obtain ⟨A, c, e, _⟩ := h.bods i x hx
  simp only [Value.slice.injEq] at e
  exact e.2.1
/-- one change more -/
theorem putTo_one (P : Int → Option CE) (x : CV) (l : List UInt8) : putTo P [x] [l] 1 = putP P x.k x.g l := rfl
/-- one change is put, where there is room -/
theorem put_one_cat (i : CI) (N : Nat) (P : Int → Option CE) (S : Nat → Prop) (x : CV) (l : List UInt8) (w : World) (h : CAt w i N P S) (hx : (0 ≤ x.k ∧ x.k < 256) ∧ x.n ≤ 224) (hl : Bytes w w.heap.size (.slice x.A x.n x.c) l) (hn : ¬ (i.mo < (cntP (liveP i.th (putP P x.k x.g l)) : Int) ∧ cntP (liveP i.th P) < cntP (liveP i.th (putP P x.k x.g l)))) (hN : N ≤ 1000000) :
    Calls Try.prog 19 #[.pointer (some ⟨i.q, 0, none⟩), .slice (some ⟨w.heap.size, 0, none⟩) 1 1] (w.alloc (.cells #[.int .i64 x.k, .bool x.g, .slice x.A x.n x.c] 46)) fun e w' => e = .returned (.int .i64 0) ∧ w.grownBy w' (some i.m) ∧ ∃ S', CAt w' i (N + 1) (putP P x.k x.g l) S' := by
  have hb := (Below.refl w.heap.size w).alloc (Nat.le_refl _) (.cells #[.int .i64 x.k, .bool x.g, .slice x.A x.n x.c] 46)
  refine (put_cat i N P S (.slice (some ⟨w.heap.size, 0, none⟩) 1 1) [x] [l] _ (h.alloc _) (chs_one (Blk.new3c w _ _ _ _)) ⟨rfl, fun j y hy => by
    cases j with
    | zero => cases hy; exact (hl.below hb).more hb.size
    | succ j => cases hy⟩ (by simp) hN).mono ?_
  rintro e w' (⟨h1, _⟩ | ⟨_, h1, _⟩ | ⟨_, _, h1, h2, h3⟩)
  · rw [rightC_one hx] at h1; cases h1
  · exact absurd h1 hn
  · exact ⟨h1, only_trans (only_of_below hb _) h2, _, h3⟩
end Go.Proofs.Ytppodbijdhcclaa

/- The document's nodes (a State): what lies in memory, how many there are. No condition. -/
namespace Go.Proofs.Ytppodbijdhcclaa
open Go Go.RowKit
/-- a state's cells -/
def stCells (bs : List ByteArray) (th : List Bool) : List Value := bs.map Value.string ++ th.map Value.bool
/-- block g begins, at o, with a state's cells -/
def RSt (w : World) (g : Nat) (t : TypeId) (rest : List Value) (bs : List ByteArray) (th : List Bool) : Prop := Blk w g t (stCells bs th ++ rest) ∧ bs.length = 256 ∧ th.length = 256
section
variable {w w' : World} {g B : Nat} {t : TypeId} {rest : List Value} {bs : List ByteArray} {th : List Bool}
theorem stCells_length (hb : bs.length = 256) (ht : th.length = 256) : (stCells bs th).length = 512 := by simp [stCells, hb, ht]
theorem RSt.lt (h : RSt w g t rest bs th) : g < w.heap.size := h.1.lt
theorem RSt.after (h : RSt w g t rest bs th) (hb : Below w.heap.size w w') : RSt w' g t rest bs th := ⟨h.1.after hb, h.2⟩
theorem RSt.grown {row : Option Nat} (h : RSt w g t rest bs th) (hg : w.grownBy w' row) (hk : some g ≠ row) : RSt w' g t rest bs th := ⟨h.1.grown hg hk, h.2⟩
theorem RSt.there (h : RSt w g t rest bs th) {k : Nat} (hk : k < 256) : w.cell? ⟨g, 256 + k, none⟩ = some (.bool (th.getD k false)) := by
  rw [h.1.cell, stCells, List.append_assoc, List.getElem?_append_right (by rw [List.length_map, h.2.1]; omega), List.length_map, h.2.1, List.getElem?_append_left (by rw [List.length_map, h.2.2]; omega), List.getElem?_map, show 256 + k - 256 = k by omega, List.getD_eq_getElem?_getD, List.getElem?_eq_getElem (by rw [h.2.2]; exact hk)]
  rfl
theorem RSt.body (h : RSt w g t rest bs th) {k : Nat} (hk : k < 256) : w.cell? ⟨g, k, none⟩ = some (.string (bs.getD k ByteArray.empty)) := by
  rw [h.1.cell, stCells, List.append_assoc, List.getElem?_append_left (by rw [List.length_map, h.2.1]; exact hk), List.getElem?_map, List.getD_eq_getElem?_getD, List.getElem?_eq_getElem (by rw [h.2.1]; exact hk)]
  rfl
theorem RSt.setThere (h : RSt w g t rest bs th) {k : Nat} (hk : k < 256) (b : Bool) : RSt (w.setCell ⟨g, 256 + k, none⟩ (.bool b)) g t rest bs (th.set k b) := by
  refine ⟨?_, h.2.1, by rw [List.length_set]; exact h.2.2⟩
  have h1 := h.1.set (256 + k) (.bool b)
  unfold stCells at h1
  rw [List.append_assoc, List.set_append_right _ _ (by rw [List.length_map, h.2.1]; omega), List.length_map, h.2.1, List.set_append_left _ _ (by rw [List.length_map, h.2.2]; omega), show 256 + k - 256 = k by omega, ← List.map_set, ← List.append_assoc] at h1
  exact h1
theorem RSt.setBody (h : RSt w g t rest bs th) {k : Nat} (hk : k < 256) (b : ByteArray) : RSt (w.setCell ⟨g, k, none⟩ (.string b)) g t rest (bs.set k b) th := by
  refine ⟨?_, by rw [List.length_set]; exact h.2.1, h.2.2⟩
  have h1 := h.1.set k (.string b)
  unfold stCells at h1
  rw [List.append_assoc, List.set_append_left _ _ (by rw [List.length_map, h.2.1]; exact hk), ← List.map_set, ← List.append_assoc] at h1
  exact h1
theorem RSt.free (h : RSt w g t rest bs th) (k : Nat) : w.frozen? ⟨g, k, none⟩ = false := h.1.free k
theorem Src.st {mo : Int} : Src w g bs th mo ↔ RSt w g 32 [.int .i64 mo] bs th := by
  unfold Src RSt Blk stCells
  rw [List.append_assoc]
end
/-- at o of block g lies a state -/
def StAt (w : World) (g o : Nat) (bs : List ByteArray) (th : List Bool) : Prop := ∃ t cs, Blk w g t cs ∧ (cs.drop o).take 512 = stCells bs th ∧ bs.length = 256 ∧ th.length = 256
theorem RSt.at0 {w : World} {g : Nat} {t : TypeId} {rest : List Value} {bs : List ByteArray} {th : List Bool} (h : RSt w g t rest bs th) : StAt w g 0 bs th :=
  ⟨t, _, h.1, by rw [List.drop_zero, List.take_left' (stCells_length h.2.1 h.2.2)], h.2⟩
section
variable {w w' : World} {g o : Nat} {bs : List ByteArray} {th : List Bool}
theorem StAt.lt (h : StAt w g o bs th) : g < w.heap.size := by
  obtain ⟨t, cs, hb, _⟩ := h
  exact hb.lt
theorem StAt.after (h : StAt w g o bs th) (hb : Below w.heap.size w w') : StAt w' g o bs th := by
  obtain ⟨t, cs, h1, h2⟩ := h
  exact ⟨t, cs, h1.after hb, h2⟩
theorem StAt.grown {row : Option Nat} (h : StAt w g o bs th) (hg : w.grownBy w' row) (hk : some g ≠ row) : StAt w' g o bs th := by
  obtain ⟨t, cs, h1, h2⟩ := h
  exact ⟨t, cs, h1.grown hg hk, h2⟩
theorem StAt.get (h : StAt w g o bs th) {k : Nat} (hk : k < 512) : w.cell? ⟨g, o + k, none⟩ = (stCells bs th)[k]? := by
  obtain ⟨t, cs, h1, h2, _⟩ := h
  rw [h1.cell, ← h2, List.getElem?_take, if_pos hk, List.getElem?_drop]
theorem StAt.there (h : StAt w g o bs th) {k : Nat} (hk : k < 256) : w.cell? ⟨g, o + 256 + k, none⟩ = some (.bool (th.getD k false)) := by
  have hl := h
  obtain ⟨_, _, _, _, hb, ht⟩ := hl
  rw [Nat.add_assoc, h.get (by omega), stCells, List.getElem?_append_right (by rw [List.length_map, hb]; omega), List.length_map, hb, List.getElem?_map, show 256 + k - 256 = k by omega, List.getD_eq_getElem?_getD, List.getElem?_eq_getElem (by rw [ht]; exact hk)]
  rfl
theorem StAt.body (h : StAt w g o bs th) {k : Nat} (hk : k < 256) : w.cell? ⟨g, o + k, none⟩ = some (.string (bs.getD k ByteArray.empty)) := by
  have hl := h
  obtain ⟨_, _, _, _, hb, ht⟩ := hl
  rw [h.get (by omega), stCells, List.getElem?_append_left (by rw [List.length_map, hb]; exact hk), List.getElem?_map, List.getD_eq_getElem?_getD, List.getElem?_eq_getElem (by rw [hb]; exact hk)]
  rfl
end
theorem stCells_one {bs : List ByteArray} {th : List Bool} : ∀ u ∈ stCells bs th, u.oneCell' = true := by
  intro u hu
  unfold stCells at hu
  rcases List.mem_append.1 hu with h | h
  · obtain ⟨b, _, rfl⟩ := List.mem_map.1 h; rfl
  · obtain ⟨b, _, rfl⟩ := List.mem_map.1 h; rfl
theorem aggSt : ∀ w, (isAgg 30).run Try.prog w = .ok true w := fun _ => by kernel_rfl
theorem sizeSt : ∀ w, (sizeOf 30).run Try.prog w = .ok 512 w := fun _ => by kernel_rfl
def cntTo (th : List Bool) (k : Nat) : Nat := ((List.range k).filter (fun j => th.getD j false)).length
theorem cntTo_succ (th : List Bool) (k : Nat) : cntTo th (k + 1) = cntTo th k + if th.getD k false = true then 1 else 0 := by
  unfold cntTo
  rw [List.range_succ, List.filter_append, List.length_append]
  congr 1
  by_cases h : th.getD k false = true
  · rw [if_pos h, List.filter_cons, if_pos h]; rfl
  · rw [if_neg h, List.filter_cons, if_neg h]; rfl
theorem cntTo_le (th : List Bool) (k : Nat) : cntTo th k ≤ k := by
  have := List.length_filter_le (fun j => th.getD j false) (List.range k)
  rwa [List.length_range] at this
set_option maxRecDepth 100000 in
set_option maxHeartbeats 4000000 in
/-- Count -/
theorem count_any (g o : Nat) (bs : List ByteArray) (th : List Bool) (w : World) (h : StAt w g o bs th) :
    Calls Try.prog 36 #[.pointer (some ⟨g, o, none⟩)] w fun e w' => e = .returned (.int .i64 (cntTo th 256 : Nat)) ∧ w = w' := by
  have HS := Lib.hid h
  clear h
  go_enter Try.func36, Try.ntmps36
  go_wp2_with fail
  go_loop [3, 4] (fun n i => ∃ k : Nat, k ≤ 256 ∧ n = .int .i64 (cntTo th k : Nat) ∧ i = .int .i64 k) (fun _ i => 256 - (intOf i).toNat)
  case atStart => exact ⟨0, Nat.zero_le _, rfl, rfl⟩
  case round =>
    obtain ⟨k, hk, rfl, rfl⟩ := hrel
    by_cases hlt : k < 256
    · have d1 : decide ((k : Int) < 256) = true := by simp; omega
      have d3 : (k : Int) < 256 := by omega
      have d4 : ¬ 256 ≤ k := by omega
      have c1 := HS.out.there hlt
      have HC := Lib.hid (cntTo_succ th k)
      have hle := cntTo_le th k
      obtain ⟨n, hn⟩ : ∃ n, n = cntTo th k := ⟨_, rfl⟩
      rw [← hn] at HC hle ⊢
      clear hn
      obtain ⟨b, hb⟩ : ∃ b, b = th.getD k false := ⟨_, rfl⟩
      rw [← hb] at c1 HC
      clear hb
      cases b with
      | true =>
        have hnn : Hid (cntTo th (k + 1) = n + 1) := Lib.hid HC.out
        clear HC
        go_wp2_with fail
        exact ⟨⟨k + 1, by omega, by rw [hnn.out]; go_num, by go_num⟩, by simp [intOf]; omega⟩
      | false =>
        have hnn : Hid (cntTo th (k + 1) = n) := Lib.hid HC.out
        clear HC
        go_wp2_with fail
        exact ⟨⟨k + 1, by omega, by rw [hnn.out], by go_num⟩, by simp [intOf]; omega⟩
    · obtain rfl : k = 256 := by omega
      go_wp2_with fail
      go_ret
      exact ⟨rfl, rfl⟩
end Go.Proofs.Ytppodbijdhcclaa

/- Commit of the document's nodes. No condition. -/
namespace Go.Proofs.Ytppodbijdhcclaa
open Go Go.RowKit
/-- the nodes behind what P tells -/
def overB (bs : List ByteArray) (P : Int → Option CE) : List ByteArray := (List.range 256).map (fun (k : Nat) => match P (k : Int) with | some e => ⟨e.body.toArray⟩ | none => bs.getD k ByteArray.empty)
def overT (th : List Bool) (P : Int → Option CE) : List Bool := (List.range 256).map (fun (k : Nat) => match P (k : Int) with | some e => !e.gone | none => th.getD k false)
theorem overB_len (bs : List ByteArray) (P : Int → Option CE) : (overB bs P).length = 256 := by simp [overB]
theorem overT_len (th : List Bool) (P : Int → Option CE) : (overT th P).length = 256 := by simp [overT]
theorem overB_get (bs : List ByteArray) (P : Int → Option CE) {k : Nat} (hk : k < 256) : (overB bs P).getD k ByteArray.empty = match P (k : Int) with | some e => ⟨e.body.toArray⟩ | none => bs.getD k ByteArray.empty := by
  unfold overB
  rw [List.getD_eq_getElem?_getD, List.getElem?_map, List.getElem?_range hk]
  rfl
theorem overT_get (th : List Bool) (P : Int → Option CE) {k : Nat} (hk : k < 256) : (overT th P).getD k false = match P (k : Int) with | some e => !e.gone | none => th.getD k false := by
  unfold overT
  rw [List.getD_eq_getElem?_getD, List.getElem?_map, List.getElem?_range hk]
  rfl
theorem list_eq_getD {α : Type} {l m : List α} (d : α) (hl : l.length = 256) (hm : m.length = 256) (h : ∀ k, k < 256 → l.getD k d = m.getD k d) : l = m := by
  refine List.ext_getElem (by rw [hl, hm]) (fun k h1 h2 => ?_)
  have := h k (by omega)
  simpa [List.getD_eq_getElem?_getD, List.getElem?_eq_getElem h1, List.getElem?_eq_getElem h2] using this
theorem overB_none {bs : List ByteArray} (h : bs.length = 256) : overB bs (fun _ => none) = bs := list_eq_getD ByteArray.empty (overB_len _ _) h (fun k hk => by rw [overB_get _ _ hk])
theorem overT_none {th : List Bool} (h : th.length = 256) : overT th (fun _ => none) = th := list_eq_getD false (overT_len _ _) h (fun k hk => by rw [overT_get _ _ hk])
theorem overB_put (bs : List ByteArray) (P : Int → Option CE) {k : Nat} (hk : k < 256) (g : Bool) (l : List UInt8) : overB bs (putP P (k : Int) g l) = (overB bs P).set k (if g then ByteArray.empty else ⟨l.toArray⟩) := list_eq_getD ByteArray.empty (overB_len _ _) (by rw [List.length_set]; exact overB_len _ _) (fun j hj => by
  rw [overB_get _ _ hj, List.getD_eq_getElem?_getD (l := (overB bs P).set _ _), List.getElem?_set]
  unfold putP
  by_cases e : k = j
  · subst e
    rw [if_pos rfl, if_pos rfl, if_pos (show k < (overB bs P).length by rw [overB_len]; exact hk)]
    cases g <;> rfl
  · rw [if_neg (by omega), if_neg e, ← List.getD_eq_getElem?_getD, overB_get _ _ hj])
theorem overT_put (th : List Bool) (P : Int → Option CE) {k : Nat} (hk : k < 256) (g : Bool) (l : List UInt8) : overT th (putP P (k : Int) g l) = (overT th P).set k (!g) := list_eq_getD false (overT_len _ _) (by rw [List.length_set]; exact overT_len _ _) (fun j hj => by
  rw [overT_get _ _ hj, List.getD_eq_getElem?_getD (l := (overT th P).set _ _), List.getElem?_set]
  unfold putP
  by_cases e : k = j
  · subst e
    rw [if_pos rfl, if_pos rfl, if_pos (show k < (overT th P).length by rw [overT_len]; exact hk)]
    cases g <;> rfl
  · rw [if_neg (by omega), if_neg e, ← List.getD_eq_getElem?_getD, overT_get _ _ hj])
def stZ : List Value := stCells (List.replicate 256 ByteArray.empty) (List.replicate 256 false)
def told0 : List Bool := List.replicate 256 false
def boolZ : List Value := told0.map Value.bool
theorem stZ_len : stZ.length = 512 := stCells_length List.length_replicate List.length_replicate
theorem boolZ_len : boolZ.length = 256 := by
  unfold boolZ told0
  rw [List.length_map]
  exact List.length_replicate
theorem zeroSt (w : World) : (zeroValue 30).run Try.prog w = .ok (.agg stZ.toArray) w := by kernel_rfl
theorem zeroBools (w : World) : (zeroValue 28).run Try.prog w = .ok (.agg boolZ.toArray) w := by kernel_rfl
theorem aggBools : ∀ w, (isAgg 28).run Try.prog w = .ok true w := fun _ => by kernel_rfl
theorem sizeBools : ∀ w, (sizeOf 28).run Try.prog w = .ok 256 w := fun _ => by kernel_rfl
theorem set_map_bool {l : List Bool} {j : Nat} {b : Bool} : (l.map Value.bool).set j (.bool b) = (l.set j b).map Value.bool := (List.map_set).symm
/-- the keys that were told: the array, and the set -/
def Told (w : World) (g : Nat) (M : List UInt8) : Prop := M.length = 32 ∧ ∃ tol : List Bool, Blk w g 28 (tol.map Value.bool) ∧ tol.length = 256 ∧ ∀ j, j < 256 → tol.getD j false = hasB M j
theorem Told.cell {w : World} {g : Nat} {M : List UInt8} (h : Told w g M) {j : Nat} (hj : j < 256) : w.cell? ⟨g, j, none⟩ = some (.bool (lhas M (j : Int))) := by
  obtain ⟨_, tol, hb, hl, ht⟩ := h
  rw [hb.cell, List.getElem?_map, List.getElem?_eq_getElem (by rw [hl]; exact hj)]
  have := ht j hj
  rw [List.getD_eq_getElem?_getD, List.getElem?_eq_getElem (by rw [hl]; exact hj), Option.getD_some] at this
  rw [Option.map_some, this, lhas_nat M hj]
theorem Told.grown {w w' : World} {row : Option Nat} {g : Nat} {M : List UInt8} (h : Told w g M) (hg : w.grownBy w' row) (hne : some g ≠ row) : Told w' g M := by
  obtain ⟨h1, tol, hb, hl, ht⟩ := h
  exact ⟨h1, tol, hb.grown hg hne, hl, ht⟩
theorem Told.set {w : World} {g : Nat} {M : List UInt8} (h : Told w g M) {j : Nat} (hj : j < 256) : Told (w.setCell ⟨g, j, none⟩ (.bool true)) g (lput M true (j : Int)) := by
  obtain ⟨h1, tol, hb, hl, ht⟩ := h
  refine ⟨by rw [lput_length]; exact h1, tol.set j true, ?_, by rw [List.length_set]; exact hl, fun i hi => ?_⟩
  · rw [← set_map_bool]
    exact hb.set j _
  · rw [← lhas_nat _ hi, lhas_lput h1, List.getD_eq_getElem?_getD, List.getElem?_set]
    by_cases e : j = i
    · subst e
      rw [if_pos rfl, if_pos (show j < tol.length by rw [hl]; exact hi), if_pos ⟨rfl, by omega⟩]
      rfl
    · rw [if_neg e, if_neg (by omega), lhas_nat _ hi, ← ht i hi, List.getD_eq_getElem?_getD]
theorem Told.free {w : World} {g : Nat} {M : List UInt8} (h : Told w g M) (j : Nat) : w.frozen? ⟨g, j, none⟩ = false := by
  obtain ⟨_, tol, hb, _⟩ := h
  exact hb.free j
theorem Told.lt {w : World} {g : Nat} {M : List UInt8} (h : Told w g M) : g < w.heap.size := by
  obtain ⟨_, tol, hb, _⟩ := h
  exact hb.lt
theorem hasB_lzeros (j : Nat) (hj : j < 256) : hasB lzeros j = false := by
  rw [← lhas_nat _ hj]
  have h := lhas_srcTo [] 0 (by omega) (j : Int)
  have h2 : lhas lzeros (j : Int) = _ := h
  rw [h2, decide_eq_false (by omega), Bool.false_and]
set_option maxRecDepth 100000 in
theorem Told.start {w : World} {g : Nat} (h : Blk w g 28 boolZ) : Told w g lzeros := ⟨lzeros_length, told0, h, List.length_replicate, fun j hj => by
  rw [hasB_lzeros j hj]
  unfold told0
  rw [List.getD_eq_getElem?_getD, List.getElem?_replicate, if_pos hj]
  rfl⟩
/-- what Commit answers -/
def ComC (w : World) (g o : Nat) (bs : List ByteArray) (th : List Bool) (lim : Int) (cs : List CV) (ls : List (List UInt8)) (e : Ending) (w' : World) : Prop :=
  Below w.heap.size w w' ∧
  ((rightC lzeros cs = false ∧ e = .returned (.tuple #[.pointer (some ⟨g, o, none⟩), .int .i64 1])) ∨
   (rightC lzeros cs = true ∧ lim < (cntTo (overT th (putTo (fun _ => none) cs ls cs.length)) 256 : Nat) ∧ e = .returned (.tuple #[.pointer (some ⟨g, o, none⟩), .int .i64 40])) ∨
   (rightC lzeros cs = true ∧ ¬ lim < (cntTo (overT th (putTo (fun _ => none) cs ls cs.length)) 256 : Nat) ∧ e = .returned (.tuple #[.pointer (some ⟨w.heap.size, 0, none⟩), .int .i64 0]) ∧ RSt w' w.heap.size 30 [] (overB bs (putTo (fun _ => none) cs ls cs.length)) (overT th (putTo (fun _ => none) cs ls cs.length))))
set_option maxRecDepth 100000 in
set_option maxHeartbeats 16000000 in
theorem commit_walk (g o : Nat) (bs : List ByteArray) (th : List Bool) (lim : Int) (v : Value) (cs : List CV) (ls : List (List UInt8)) (w : World) (h : StAt w g o bs th) (hc : ChL w w.heap.size v cs ls) (hz : cs.length ≤ 1000) :
    Calls Try.prog 14 #[.pointer (some ⟨g, o, none⟩), .int .i64 lim, v] w fun e w' => ComC w g o bs th lim cs ls e w' := by
  obtain ⟨A, c, rfl, hcc, hm⟩ := chL_wid hc
  obtain ⟨t, bcs, hb0, hv0, hbl, htl⟩ := id h
  have HS1 := Lib.hid hb0
  have HV := Lib.hid hv0
  have HL := Lib.hid (stCells_length hbl htl)
  have HLB := Lib.hid (And.intro hbl htl)
  have HC := Lib.hid hc
  obtain ⟨N, hN⟩ : ∃ N, cs.length = N := ⟨_, rfl⟩
  have HN := Lib.hid hN
  rw [hN] at hcc hz HC ⊢
  have z1 := zeroSt
  have z2 := zeroBools
  have l1 := stZ_len
  have l2 := boolZ_len
  have X2 := Lib.hid ((Blk.new w 30 stZ).alloc (.cells boolZ.toArray 28))
  have Y2 := Lib.hid (show Blk ((w.alloc (.cells stZ.toArray 30)).alloc (.cells boolZ.toArray 28)) (w.heap.size + 1) 28 boolZ by have h1 := Blk.new (w.alloc (.cells stZ.toArray 30)) 28 boolZ; rw [World.size_alloc] at h1; exact h1)
  have B2 := Lib.hid (((Below.refl w.heap.size w).alloc (Nat.le_refl _) (.cells stZ.toArray 30)).alloc (by simp) (.cells boolZ.toArray 28))
  clear h hc hN hb0 hv0 hbl htl
  go_enter Try.func14, Try.ntmps14
  have ST1 := Lib.hid (stCells_one (bs := bs) (th := th))
  have BZ1 := Lib.hid (show ∀ u ∈ boolZ, u.oneCell' = true from fun u hu => by obtain ⟨b, _, rfl⟩ := List.mem_map.1 hu; rfl)
  have SG1 := Lib.hid (show segSet stZ 0 (stCells bs th) = stCells bs th by
    unfold segSet
    rw [List.take_zero, List.nil_append, Nat.zero_add, HL.out, ← stZ_len, List.drop_length, List.append_nil])
  have SG2 := Lib.hid (show segSet boolZ 0 boolZ = boolZ by
    unfold segSet
    rw [List.take_zero, List.nil_append, Nat.zero_add, List.drop_length, List.append_nil])
  go_upto_region 2 with (first
    | (with_reducible refine wpl_seg_load aggSt sizeSt (.tmp 13) rfl rfl HS1.out o (stCells bs th) HV.out HL.out rfl ?_)
    | ((with_reducible refine wpl_seg_store sizeSt (.tmp 8) (.tmp 14) rfl rfl X2.out 0 (stCells bs th) HL.out (Nat.le_of_eq l1.symm) ST1.out rfl rfl _ SG1.out ?_); intro w3 X3 g3 e3; have HX3 := Lib.hid X3; have HY3 := Lib.hid (Y2.out.grown g3 (by simp)); have T3 := Lib.hid (B2.out.grown g3 B2.out.size (fun k e => by cases e; exact Nat.le_refl _)); clear X3 g3 e3)
    | ((with_reducible refine wpl_seg_store sizeBools (.tmp 9) (.tmp 15) rfl rfl HY3.out 0 boolZ l2 (Nat.le_of_eq l2.symm) BZ1.out rfl rfl _ SG2.out ?_); intro w4 X4 g4 e4; have HY4 := Lib.hid X4; have HX4 := Lib.hid (HX3.out.grown g4 (by simp)); have T4 := Lib.hid (T3.out.grown g4 T3.out.size (fun k e => by cases e; exact Nat.le_succ _)); clear X4 g4 e4 HX3 HY3 T3))
  have O4 := Lib.hid (show RSt w4 w.heap.size 30 [] (overB bs (putTo (fun _ => none) cs ls 0)) (overT th (putTo (fun _ => none) cs ls 0)) from ⟨by
    show Blk w4 _ _ (stCells (overB bs (fun _ => none)) (overT th (fun _ => none)) ++ [])
    rw [overB_none HLB.out.1, overT_none HLB.out.2, List.append_nil]
    exact HX4.out, overB_len _ _, overT_len _ _⟩)
  have D4 := Lib.hid (Told.start HY4.out)
  obtain ⟨G, hG⟩ : ∃ G, G = w.heap.size := ⟨_, rfl⟩
  have HG := Lib.hid hG
  have HGE : Hid (w.heap.size ≤ G) := Lib.hid (Nat.le_of_eq hG.symm)
  rw [← hG] at O4 D4 ⊢
  clear X2 Y2 B2 HX4 HY4 SG1 SG2 ST1 BZ1 HV HL hG z1 z2 l1 l2
  go_wp2_with fail
  go_loopw [10] (fun i wr => ∃ (k : Nat) (M : List UInt8), k ≤ N ∧ i = .int .i64 k ∧ Hid (RSt wr G 30 [] (overB bs (putTo (fun _ => none) cs ls k)) (overT th (putTo (fun _ => none) cs ls k))) ∧ Hid (Told wr (G + 1) M) ∧ Hid (rightC lzeros cs = rightC M (cs.drop k)) ∧ Hid (Below w.heap.size w wr)) (fun i _ => N - (intOf i).toNat)
  case atStart => exact ⟨0, lzeros, Nat.zero_le _, rfl, O4, D4, Lib.hid rfl, T4⟩
  case round =>
    clear O4 D4 T4
    rename_i wr
    obtain ⟨k, M, hk, rfl, hO, hD, hR, hb⟩ := hrel
    by_cases hlt : k < N
    · obtain ⟨x, hx⟩ : ∃ x, cs[k]? = some x := ⟨_, List.getElem?_eq_getElem (by rw [HN.out]; exact hlt)⟩
      have d0 : decide ((k : Int) < (N : Int)) = true := by simp; omega
      obtain ⟨a, rfl, hab, hck⟩ := (HC.out.below hb.out).rows.elem hx
      have hby := HC.out.bods.2 k x hx
      have HT := hR.out.trans (rightC_next hx)
      obtain ⟨xk, xg, xA, xn, xc⟩ := x
      obtain ⟨l, hl⟩ : ∃ l, l = ls.getD k [] := ⟨_, rfl⟩
      rw [← hl] at hby
      have HNX : Hid (putTo (fun _ => none) cs ls (k + 1) = putP (putTo (fun _ => none) cs ls k) xk xg l) := Lib.hid (by
        show putP _ (cs.getD k _).k (cs.getD k _).g (ls.getD k []) = _
        rw [List.getD_eq_getElem?_getD, hx, ← hl]
        rfl)
      have HLL : Hid (l.length = xn) := Lib.hid (by obtain ⟨_, _, e, _⟩ := hby; simp only [Value.slice.injEq] at e; exact e.2.1.symm)
      have HCK := Lib.hid (show ∀ j u, ([.int .i64 xk, .bool xg, .slice xA xn xc] : List Value)[j]? = some u → wr.cell? ((a.add (k * 3)).add j) = some u from hck)
      have HTy : Hid (fitC ⟨xk, xg, xA, xn, xc⟩ = true ∧ lhas M xk = false → rightC lzeros cs = rightC (lput M true xk) (cs.drop (k + 1))) := Lib.hid (fun h => HT.trans (if_pos h))
      have HTn : Hid (¬ (fitC ⟨xk, xg, xA, xn, xc⟩ = true ∧ lhas M xk = false) → rightC lzeros cs = false) := Lib.hid (fun h => HT.trans (if_neg h))
      have B2 := Lib.hid ((Below.refl wr.heap.size wr).alloc (Nat.le_refl _) (.cells #[.int .i64 xk, .bool xg, .slice xA xn xc] 46))
      have X2 := Lib.hid (Blk.new3c wr (.int .i64 xk) (.bool xg) (.slice xA xn xc) 46)
      have HBY := Lib.hid hby
      have O2 := Lib.hid (hO.out.after B2.out)
      have D2 := Lib.hid (hD.out.grown (only_of_below B2.out none) (by simp))
      have T2 := Lib.hid (hb.out.trans (B2.out.mono hb.out.size))
      have PP : Hid (G < wr.heap.size ∧ G + 1 < wr.heap.size) := Lib.hid ⟨hO.out.lt, hD.out.lt⟩
      clear hck hx hby hl hR HT
      go_upto_region 6 with (with_reducible refine wpl_cells (q := a.add (k * 3)) (row := [.int .i64 xk, .bool xg, .slice xA xn xc]) aggC sizeC (.tmp 24) rfl rfl rfl rfl HCK.out ?_)
      obtain ⟨W2, hW2⟩ : ∃ W2, W2 = wr.alloc (.cells #[.int .i64 xk, .bool xg, .slice xA xn xc] 46) := ⟨_, rfl⟩
      rw [← hW2] at X2 O2 D2 T2 ⊢
      obtain ⟨p, hp⟩ : ∃ p, p = wr.heap.size := ⟨_, rfl⟩
      rw [← hp] at X2 PP ⊢
      clear hW2 hp hO hD hb B2 HCK
      have x0 := X2.out.cell 0
      have x2 := X2.out.cell 2
      simp only [List.getElem?_cons_zero, List.getElem?_cons_succ] at x0 x2
      by_cases hfit : (0 ≤ xk ∧ xk < 256) ∧ xn ≤ 224
      · obtain ⟨j, rfl⟩ : ∃ j : Nat, xk = (j : Int) := ⟨xk.toNat, by omega⟩
        have hj : j < 256 := by omega
        have d1 : decide ((j : Int) < 0) = false := by simp
        have d2 : decide ((255 : Int) < (j : Int)) = false := by simp; omega
        have d3 : decide ((224 : Int) < (xn : Int)) = false := by simp; omega
        have d4 : (j : Int) < 256 := by omega
        have d5 : ¬ 256 ≤ j := by omega
        have d6 : ¬ (256 : Int) ≤ (j : Int) := by omega
        have hf : Hid (fitC ⟨(j : Int), xg, xA, xn, xc⟩ = true) := Lib.hid (by unfold fitC; simp; omega)
        have c1 := D2.out.cell hj
        obtain ⟨b, hb⟩ : ∃ b, b = lhas M (j : Int) := ⟨_, rfl⟩
        rw [← hb] at c1
        have HB2 := Lib.hid hb
        clear hb
        cases b with
        | true =>
          have hfin : Hid (rightC lzeros cs = false) := Lib.hid (HTn.out (fun h => by rw [← HB2.out] at h; exact absurd h.2 (by simp)))
          go_wp2_with fail
          go_ret2
          exact ⟨T2.out, .inl ⟨hfin.out, rfl⟩⟩
        | false =>
          have hnx : Hid (rightC lzeros cs = rightC (lput M true (j : Int)) (cs.drop (k + 1))) := Lib.hid (HTy.out ⟨hf.out, HB2.out.symm⟩)
          have hnb := Lib.hid (overB_put bs (putTo (fun _ => none) cs ls k) hj xg l)
          have hnt := Lib.hid (overT_put th (putTo (fun _ => none) cs ls k) hj xg l)
          clear HTy HTn HB2
          go_upto_region 8 with fail
          have f1 := D2.out.free j
          go_upto_region 9 with fail
          have s3 := only_set W2 ⟨G + 1, j, none⟩ (.bool true)
          have D3 := Lib.hid (D2.out.set hj)
          have X3 := Lib.hid (X2.out.grown s3 (by simp only [ne_eq, Option.some.injEq]; have := PP.out; omega))
          have O3 := Lib.hid (O2.out.grown s3 (by simp))
          have T3 := Lib.hid (T2.out.grown s3 T2.out.size (fun q e => by cases e; first | exact HGE.out | exact Nat.le_trans HGE.out (Nat.le_succ _)))
          obtain ⟨W3, hW3⟩ : ∃ W3, W3 = W2.setCell ⟨G + 1, j, none⟩ (.bool true) := ⟨_, rfl⟩
          rw [← hW3] at D3 X3 O3 T3 ⊢
          clear hW3 s3 D2 X2 O2 T2 x0 x2 c1 f1
          have x0 := X3.out.cell 0
          have x1 := X3.out.cell 1
          simp only [List.getElem?_cons_zero, List.getElem?_cons_succ] at x0 x1
          have c2 := O3.out.there hj
          have f2 := O3.out.free (256 + j)
          go_upto_region 10 with fail
          have s4 := only_set W3 ⟨G, 256 + j, none⟩ (.bool !xg)
          have O4 := Lib.hid (O3.out.setThere hj (!xg))
          have D4 := Lib.hid (D3.out.grown s4 (by simp))
          have X4 := Lib.hid (X3.out.grown s4 (by simp only [ne_eq, Option.some.injEq]; have := PP.out; omega))
          have T4 := Lib.hid (T3.out.grown s4 T3.out.size (fun q e => by cases e; first | exact HGE.out | exact Nat.le_trans HGE.out (Nat.le_succ _)))
          obtain ⟨W4, hW4⟩ : ∃ W4, W4 = W3.setCell ⟨G, 256 + j, none⟩ (.bool !xg) := ⟨_, rfl⟩
          rw [← hW4] at D4 X4 O4 T4 ⊢
          clear hW4 s4 D3 X3 O3 T3 x0 x1 c2 f2
          have x0 := X4.out.cell 0
          simp only [List.getElem?_cons_zero] at x0
          have c3 := O4.out.body hj
          have f3 := O4.out.free j
          go_upto_region 11 with fail
          have s5 := only_set W4 ⟨G, j, none⟩ (.string ByteArray.empty)
          have O5 := Lib.hid (O4.out.setBody hj ByteArray.empty)
          have D5 := Lib.hid (D4.out.grown s5 (by simp))
          have X5 := Lib.hid (X4.out.grown s5 (by simp only [ne_eq, Option.some.injEq]; have := PP.out; omega))
          have T5 := Lib.hid (T4.out.grown s5 T4.out.size (fun q e => by cases e; first | exact HGE.out | exact Nat.le_trans HGE.out (Nat.le_succ _)))
          obtain ⟨W5, hW5⟩ : ∃ W5, W5 = W4.setCell ⟨G, j, none⟩ (.string ByteArray.empty) := ⟨_, rfl⟩
          have es : (Value.string { data := #[] } : Value) = .string ByteArray.empty := rfl
          try rw [es]
          rw [← hW5] at D5 X5 O5 T5 ⊢
          clear hW5 s5 D4 X4 O4 T4 x0 c3 f3 es
          have x1 := X5.out.cell 1
          simp only [List.getElem?_cons_zero, List.getElem?_cons_succ] at x1
          cases xg with
          | true =>
            go_wp2_with fail
            exact ⟨⟨k + 1, lput M true (j : Int), by omega, by go_num, Lib.hid (by rw [HNX.out, hnb.out, hnt.out]; exact O5.out), D5, hnx, T5⟩, by simp [intOf]; omega⟩
          | false =>
            have x0 := X5.out.cell 0
            have x2 := X5.out.cell 2
            simp only [List.getElem?_cons_zero, List.getElem?_cons_succ] at x0 x2
            have c4 := O5.out.body hj
            have f4 := O5.out.free j
            have hrun := run_str (st := 9) byteTys Try.underlying5 Try.underlying9 (HBY.out.below T5.out)
            go_wp2_with fail
            have s6 := only_set W5 ⟨G, j, none⟩ (.string ⟨l.toArray⟩)
            have O6 := Lib.hid (O5.out.setBody hj ⟨l.toArray⟩)
            exact ⟨⟨k + 1, lput M true (j : Int), by omega, by go_num, Lib.hid (by rw [HNX.out, hnb.out, hnt.out]; have h1 := O6.out; rw [List.set_set] at h1; exact h1), Lib.hid (D5.out.grown s6 (by simp)), hnx, Lib.hid (T5.out.grown s6 T5.out.size (fun q e => by cases e; first | exact HGE.out | exact Nat.le_trans HGE.out (Nat.le_succ _)))⟩, by simp [intOf]; omega⟩
      · have hfin : Hid (rightC lzeros cs = false) := Lib.hid (HTn.out (by
          rintro ⟨h, _⟩
          unfold fitC at h
          simp at h
          exact hfit ⟨h.1, h.2⟩))
        by_cases h1 : xk < 0
        · have d1 : decide (xk < 0) = true := decide_eq_true h1
          go_wp2_with fail
          go_ret2
          exact ⟨T2.out, .inl ⟨hfin.out, rfl⟩⟩
        · have d1 : decide (xk < 0) = false := decide_eq_false h1
          by_cases h2 : 255 < xk
          · have d2 : decide (255 < xk) = true := decide_eq_true h2
            go_wp2_with fail
            go_ret2
            exact ⟨T2.out, .inl ⟨hfin.out, rfl⟩⟩
          · have d2 : decide (255 < xk) = false := decide_eq_false h2
            have d3 : decide ((224 : Int) < (xn : Int)) = true := by simp; omega
            go_wp2_with fail
            go_ret2
            exact ⟨T2.out, .inl ⟨hfin.out, rfl⟩⟩
    · obtain rfl : k = N := by omega
      have d0 : decide ((k : Int) < (k : Int)) = false := by simp
      rw [List.drop_of_length_le (by rw [HN.out]; exact Nat.le_refl _)] at hR
      have KC := Lib.hid (count_any G 0 _ _ wr hO.out.at0)
      obtain ⟨n, hn⟩ : ∃ n, n = cntTo (overT th (putTo (fun _ => none) cs ls k)) 256 := ⟨_, rfl⟩
      rw [← hn] at KC
      have HNN := Lib.hid hn
      clear hn
      by_cases hl : lim < (n : Int)
      · have d1 : decide (lim < (n : Int)) = true := decide_eq_true hl
        go_wp2_with ((with_reducible refine KC.out.mono ?_); rintro e w5 ⟨rfl, rfl⟩; clear KC)
        go_ret2
        exact ⟨hb.out, .inr (.inl ⟨hR.out, by rw [HN.out, ← HNN.out]; exact hl, rfl⟩)⟩
      · have d1 : decide (lim < (n : Int)) = false := decide_eq_false hl
        go_wp2_with ((with_reducible refine KC.out.mono ?_); rintro e w5 ⟨rfl, rfl⟩; clear KC)
        go_ret2
        exact ⟨hb.out, .inr (.inr ⟨hR.out, by rw [HN.out, ← HNN.out]; omega, by rw [← HG.out]; rfl, by rw [HN.out, ← HG.out]; exact hO.out⟩)⟩
end Go.Proofs.Ytppodbijdhcclaa

/- What CacheKept needs, plainly: the source behind a cache's changes has the nodes that the cache told. No condition. -/
namespace Go.Proofs.Ytppodbijdhcclaa
open Go Go.RowKit
/-- changes that may be -/
def PGood (P : Int → Option CE) : Prop := ∀ z e, P z = some e → (0 ≤ z ∧ z < 256) ∧ e.body.length ≤ 224
theorem PGood.none : PGood (fun _ => none) := fun z e h => by cases h
theorem PGood.small {P : Int → Option CE} (h : PGood P) : ∀ z e, P z = some e → e.body.length ≤ 100000 := fun z e he => Nat.le_trans (h z e he).2 (by omega)
theorem PGood.putTo {P : Int → Option CE} (h : PGood P) (cs : List CV) (ls : List (List UInt8)) (hx : ∀ (i : Nat) (x : CV), cs[i]? = some x → (0 ≤ x.k ∧ x.k < 256) ∧ (ls.getD i []).length ≤ 224) : ∀ k, k ≤ cs.length → PGood (putTo P cs ls k)
  | 0, _ => h
  | k + 1, hk => fun z e he => by
    obtain ⟨x, hxk⟩ : ∃ x, cs[k]? = some x := ⟨_, List.getElem?_eq_getElem (by omega)⟩
    have h1 : putP (Go.Proofs.Ytppodbijdhcclaa.putTo P cs ls k) (cs.getD k ⟨0, false, .none, 0, 0⟩).k (cs.getD k ⟨0, false, .none, 0, 0⟩).g (ls.getD k []) z = some e := he
    rw [List.getD_eq_getElem?_getD, hxk, Option.getD_some] at h1
    have h2 := hx k x hxk
    unfold putP at h1
    split at h1
    · rename_i ez
      cases h1
      subst ez
      refine ⟨h2.1, ?_⟩
      dsimp only
      split
      · simp
      · exact h2.2
    · exact PGood.putTo h cs ls hx k (by omega) z e h1
def cvOf (x : Int × CE) : CV := ⟨x.1, x.2.gone, none, (chBody x).length, 0⟩
theorem kg_cvOf (L : List (Int × CE)) : (L.map cvOf).map kg = L.map chKg := by rw [List.map_map]; rfl
theorem putTo_pre (P : Int → Option CE) (cs ds : List CV) (ls ms : List (List UInt8)) (hl : cs.length = ls.length) : ∀ k, k ≤ cs.length → putTo P (cs ++ ds) (ls ++ ms) k = putTo P cs ls k
  | 0, _ => rfl
  | k + 1, hk => by
    show putP (putTo P (cs ++ ds) (ls ++ ms) k) _ _ _ = putP (putTo P cs ls k) _ _ _
    rw [putTo_pre P cs ds ls ms hl k (by omega), List.getD_eq_getElem?_getD, List.getD_eq_getElem?_getD, List.getD_eq_getElem?_getD, List.getD_eq_getElem?_getD, List.getElem?_append_left (by omega), List.getElem?_append_left (by omega)]
theorem putTo_snoc (P : Int → Option CE) (cs : List CV) (x : CV) (ls : List (List UInt8)) (l : List UInt8) (hl : cs.length = ls.length) : putTo P (cs ++ [x]) (ls ++ [l]) (cs.length + 1) = putP (putTo P cs ls cs.length) x.k x.g l := by
  show putP (putTo P (cs ++ [x]) (ls ++ [l]) cs.length) _ _ _ = _
  rw [putTo_pre P cs [x] ls [l] hl cs.length (Nat.le_refl _), List.getD_eq_getElem?_getD, List.getD_eq_getElem?_getD, List.getElem?_append_right (Nat.le_refl _), hl, List.getElem?_append_right (Nat.le_refl _), Nat.sub_self]
  rfl
/-- what counts of P at z -/
def chOf (th : List Bool) (P : Int → Option CE) (z : Int) : Option CE := match P z with
  | some e => if (!e.gone || th.getD z.toNat false) = true then some ⟨e.gone, chBody (z, e)⟩ else none
  | none => none
theorem putTo_chg (th : List Bool) (P : Int → Option CE) : ∀ n z, putTo (fun _ => none) ((chgTo th P n).map cvOf) ((chgTo th P n).map chBody) (chgTo th P n).length z = if 0 ≤ z ∧ z < (n : Int) then chOf th P z else none
  | 0, z => by rw [if_neg (by omega)]; rfl
  | n + 1, z => by
    have ih := putTo_chg th P n z
    by_cases hc : ∃ e, P (n : Int) = some e ∧ (!e.gone || th.getD n false) = true
    · obtain ⟨e, he, hce⟩ := hc
      rw [chgTo_yes he hce, List.map_append, List.map_append, List.length_append, List.map_cons, List.map_nil, List.map_cons, List.map_nil]
      have h1 := putTo_snoc (fun _ => none) ((chgTo th P n).map cvOf) (cvOf ((n : Int), e)) ((chgTo th P n).map chBody) (chBody ((n : Int), e)) (by rw [List.length_map, List.length_map])
      rw [List.length_map] at h1
      show putTo _ _ _ ((chgTo th P n).length + 1) z = _
      rw [h1]
      unfold putP
      show (if z = (n : Int) then some (⟨e.gone, if e.gone = true then [] else chBody ((n : Int), e)⟩ : CE) else _) = _
      by_cases ez : z = (n : Int)
      · subst ez
        rw [if_pos rfl, if_pos (show 0 ≤ (n : Int) ∧ (n : Int) < ((n + 1 : Nat) : Int) by omega)]
        unfold chOf
        rw [he]
        dsimp only
        rw [Int.toNat_natCast, if_pos hce]
        obtain ⟨eg, eb⟩ := e
        cases eg <;> rfl
      · rw [if_neg ez, ih]
        by_cases hz : 0 ≤ z ∧ z < (n : Int)
        · rw [if_pos hz, if_pos (by omega)]
        · rw [if_neg hz, if_neg (by omega)]
    · have hno : chgTo th P (n + 1) = chgTo th P n := chgTo_no (fun e he => by
        by_cases h : (!e.gone || th.getD n false) = true
        · exact absurd ⟨e, he, h⟩ hc
        · simpa using h)
      rw [hno, ih]
      by_cases hz : 0 ≤ z ∧ z < (n : Int)
      · rw [if_pos hz, if_pos (by omega)]
      · rw [if_neg hz]
        by_cases hz2 : 0 ≤ z ∧ z < ((n + 1 : Nat) : Int)
        · rw [if_pos hz2]
          obtain rfl : z = (n : Int) := by omega
          unfold chOf
          cases he : P (n : Int) with
          | none => rfl
          | some e =>
            dsimp only
            rw [Int.toNat_natCast, if_neg (fun h => hc ⟨e, he, h⟩)]
        · rw [if_neg hz2]
theorem chgTo_keys (th : List Bool) (P : Int → Option CE) : ∀ n, (∀ x ∈ chgTo th P n, (0 ≤ x.1 ∧ x.1 < (n : Int)) ∧ P x.1 = some x.2) ∧ (chgTo th P n).Pairwise (fun a b => a.1 ≠ b.1)
  | 0 => ⟨fun x h => by simp [chgTo] at h, List.Pairwise.nil⟩
  | n + 1 => by
    have ih := chgTo_keys th P n
    by_cases hc : ∃ e, P (n : Int) = some e ∧ (!e.gone || th.getD n false) = true
    · obtain ⟨e, he, hce⟩ := hc
      rw [chgTo_yes he hce]
      refine ⟨fun x hx => ?_, List.pairwise_append.2 ⟨ih.2, List.pairwise_singleton _ _, fun a ha b hb => ?_⟩⟩
      · rcases List.mem_append.1 hx with hx | hx
        · have := ih.1 x hx; exact ⟨by omega, this.2⟩
        · simp only [List.mem_singleton] at hx
          subst hx
          exact ⟨by simp; omega, he⟩
      · simp only [List.mem_singleton] at hb
        subst hb
        have := (ih.1 a ha).1
        simp only
        omega
    · have hno : chgTo th P (n + 1) = chgTo th P n := chgTo_no (fun e he => by
        by_cases h : (!e.gone || th.getD n false) = true
        · exact absurd ⟨e, he, h⟩ hc
        · simpa using h)
      rw [hno]
      exact ⟨fun x hx => by have := ih.1 x hx; exact ⟨by omega, this.2⟩, ih.2⟩
theorem rightC_of : ∀ (cs : List CV) (M : List UInt8), M.length = 32 → (∀ x ∈ cs, (0 ≤ x.k ∧ x.k < 256) ∧ x.n ≤ 224) → (cs.Pairwise (fun a b => a.k ≠ b.k)) → (∀ x ∈ cs, lhas M x.k = false) → rightC M cs = true
  | [], _, _, _, _, _ => rfl
  | c :: cs, M, hM, hf, hp, hn => by
    unfold rightC
    have h1 := hf c (.head _)
    rw [if_pos ⟨by unfold fitC; simp [h1.1, h1.2], hn c (.head _)⟩]
    have hp2 := List.pairwise_cons.1 hp
    refine rightC_of cs _ (by rw [lput_length]; exact hM) (fun x hx => hf x (.tail _ hx)) hp2.2 (fun x hx => ?_)
    rw [lhas_lput hM, if_neg (fun h => hp2.1 x hx h.1.symm)]
    exact hn x (.tail _ hx)
/-- the changes of a cache are such as may be -/
theorem changes_right {w : World} {base : Nat} {v : Value} {cs : List CV} {th : List Bool} {P : Int → Option CE} (hP : PGood P) (ho : ChOwn w base v cs ((chgTo th P 256).map chBody)) (hk : cs.map kg = (chgTo th P 256).map chKg) : rightC lzeros cs = true := by
  have hg := chgTo_keys th P 256
  have hget : ∀ (i : Nat) (x : CV), cs[i]? = some x → ∃ y, (chgTo th P 256)[i]? = some y ∧ x.k = y.1 ∧ x.n = (chBody y).length := fun i x hx => by
    have hi := get_lt hx
    have h1 : (cs.map kg)[i]? = ((chgTo th P 256).map chKg)[i]? := by rw [hk]
    rw [List.getElem?_map, List.getElem?_map, hx] at h1
    cases hy : (chgTo th P 256)[i]? with
    | none => rw [hy] at h1; cases h1
    | some y =>
      rw [hy] at h1
      simp only [Option.map_some, Option.some.injEq, kg, chKg, Prod.mk.injEq] at h1
      refine ⟨y, rfl, h1.1, ?_⟩
      rw [ho.n_eq hx, List.getD_eq_getElem?_getD, List.getElem?_map, hy]
      rfl
  refine rightC_of cs lzeros lzeros_length (fun x hx => ?_) ?_ (fun x _ => lhas_lzeros x.k)
  · obtain ⟨i, hi⟩ := List.mem_iff_getElem?.1 hx
    obtain ⟨y, hy, e1, e2⟩ := hget i x hi
    have h1 := hg.1 y (List.mem_of_getElem? hy)
    have h2 := hP _ _ h1.2
    rw [e1, e2]
    refine ⟨h2.1, ?_⟩
    unfold chBody
    split
    · simp
    · exact h2.2
  · rw [List.pairwise_iff_getElem]
    intro i j hi hj hij
    obtain ⟨y, hy, e1, _⟩ := hget i _ (List.getElem?_eq_getElem hi)
    obtain ⟨z, hz, e3, _⟩ := hget j _ (List.getElem?_eq_getElem hj)
    have h1 := (List.pairwise_iff_getElem.1 hg.2) i j (get_lt hy) (get_lt hz) hij
    have e4 := (List.getElem?_eq_some_iff.1 hy).2
    have e5 := (List.getElem?_eq_some_iff.1 hz).2
    rw [e4, e5] at h1
    rw [e1, e3]
    exact h1
/-- the source behind the changes has the nodes that the cache told -/
theorem kept_get {bs : List ByteArray} {th : List Bool} {P : Int → Option CE} {cs : List CV} (hP : PGood P) (hk : cs.map kg = (chgTo th P 256).map chKg) (z : Int) :
    getB (overB bs (putTo (fun _ => none) cs ((chgTo th P 256).map chBody) cs.length)) (overT th (putTo (fun _ => none) cs ((chgTo th P 256).map chBody) cs.length)) (fun _ => none) z = getB bs th P z := by
  have hlen : cs.length = (chgTo th P 256).length := by
    rw [← List.length_map (f := kg), hk, List.length_map]
  have h1 : ∀ y, putTo (fun _ => none) cs ((chgTo th P 256).map chBody) cs.length y = if 0 ≤ y ∧ y < 256 then chOf th P y else none := fun y => by
    rw [putTo_kg (ds := (chgTo th P 256).map cvOf) _ _ (hk.trans (kg_cvOf _).symm) cs.length, hlen]
    exact putTo_chg th P 256 y
  unfold getB
  dsimp only
  by_cases hz : 0 ≤ z ∧ z < 256
  · obtain ⟨k, rfl⟩ : ∃ k : Nat, z = (k : Int) := ⟨z.toNat, by omega⟩
    rw [decide_eq_true hz, Bool.true_and, Int.toNat_natCast, overB_get _ _ (by omega), overT_get _ _ (by omega), h1, if_pos hz]
    unfold chOf
    cases hp : P (k : Int) with
    | none => rfl
    | some e =>
      dsimp only
      rw [Int.toNat_natCast]
      obtain ⟨eg, eb⟩ := e
      cases eg with
      | true => cases ht : th.getD k false <;> simp [chBody]
      | false => simp [chBody]
  · rw [decide_eq_false hz]
    cases hp : P z with
    | none => simp
    | some e => exact absurd (hP z e hp).1 hz
/-- the source makes a cache's changes itself -/
theorem commit_chg (g base : Nat) (t : TypeId) (rest : List Value) (bs : List ByteArray) (th : List Bool) (v : Value) (cs : List CV) (P : Int → Option CE) (w : World) (h : RSt w g t rest bs th) (ho : ChOwn w base v cs ((chgTo th P 256).map chBody)) (hk : cs.map kg = (chgTo th P 256).map chKg) (hP : PGood P) :
    Calls Try.prog 14 #[.pointer (some ⟨g, 0, none⟩), .int .i64 1000, v] w fun e w' => e = .returned (.tuple #[.pointer (some ⟨w.heap.size, 0, none⟩), .int .i64 0]) ∧ RSt w' w.heap.size 30 [] (overB bs (putTo (fun _ => none) cs ((chgTo th P 256).map chBody) cs.length)) (overT th (putTo (fun _ => none) cs ((chgTo th P 256).map chBody) cs.length)) ∧ Below w.heap.size w w' := by
  have hg := chgTo_keys th P 256
  have hr := changes_right hP ho hk
  refine (commit_walk g 0 bs th 1000 v cs _ w h.at0 (ho.chL (fun c hc => wfC (by
    obtain ⟨i, hi⟩ := List.mem_iff_getElem?.1 hc
    exact (rightC_keys hr hi).1))) (by
    rw [← List.length_map (f := kg), hk, List.length_map]
    have := chgTo_len th P 256
    omega)).mono ?_
  rintro e w' ⟨b, (⟨h1, _⟩ | ⟨_, h1, _⟩ | ⟨_, _, rfl, h1⟩)⟩
  · rw [hr] at h1; cases h1
  · have := cntTo_le (overT th (putTo (fun _ => none) cs ((chgTo th P 256).map chBody) cs.length)) 256
    omega
  · exact ⟨rfl, h1, b⟩
theorem CAt.setSrc {w w' : World} {i : CI} {N : Nat} {P : Int → Option CE} {S : Nat → Prop} {bs : List ByteArray} {th : List Bool} {mo : Int} (h : CAt w i N P S) (g : w.grownBy w' (some i.s)) (hs : Src w' i.s bs th mo) (hS : ¬ S i.s) : CAt w' ⟨i.q, i.m, i.s, bs, th, mo⟩ N P S := by
  obtain ⟨c1, c2, c3, c4, c5⟩ := h.lt
  obtain ⟨a1, a2, a3, N0, D, f, a4, a5, a6, a7⟩ := id h
  have hq : i.q ≠ i.s := fun e => by
    have h1 := a1
    unfold Cc Blk at h1
    rw [e, a2.1] at h1
    simp at h1
  exact ⟨Blk.grown a1 g (by simp only [ne_eq, Option.some.injEq]; exact hq), hs, fun b hb => ⟨(a3 b hb).1, Nat.lt_of_lt_of_le (a3 b hb).2 g.size⟩, N0, D, f, a4, a5.kept g (by simp only [ne_eq, Option.some.injEq]; exact fun e => c5 e.symm), a6, a7.grown g (fun b hb e => by cases e; exact hS hb)⟩
theorem over_small {bs : List ByteArray} {P : Int → Option CE} (h : ∀ k, (bs.getD k ByteArray.empty).size ≤ 100000) (hP : PGood P) : ∀ k, ((overB bs P).getD k ByteArray.empty).size ≤ 100000 := fun k => by
  by_cases hk : k < 256
  · rw [overB_get _ _ hk]
    cases hp : P (k : Int) with
    | none => exact h k
    | some e => have := (hP _ _ hp).2; dsimp only; rw [Lib.size_eq]; simp; omega
  · rw [List.getD_eq_getElem?_getD, List.getElem?_eq_none (by rw [overB_len]; omega)]
    decide
/-- the law's old nodes: those that were committed, or none -/
theorem commit_old (g : Nat) (v : Value) (cs : List CV) (ls : List (List UInt8)) (w : World) (h : RSt w g 30 [] (List.replicate 256 ByteArray.empty) (List.replicate 256 false)) (hc : ChL w w.heap.size v cs ls) (hz : cs.length ≤ 1000) :
    Calls Try.prog 14 #[.pointer (some ⟨g, 0, none⟩), .int .i64 1000, v] w fun e w' => ∃ gp r bs th, e = .returned (.tuple #[.pointer (some ⟨gp, 0, none⟩), .int .i64 r]) ∧ RSt w' gp 30 [] bs th ∧ (∀ k, (bs.getD k ByteArray.empty).size ≤ 100000) ∧ Below w.heap.size w w' := by
  have hem : ∀ k, ((List.replicate 256 ByteArray.empty).getD k ByteArray.empty).size ≤ 100000 := fun k => by
    rw [List.getD_eq_getElem?_getD, List.getElem?_replicate]
    split <;> decide
  refine (commit_walk g 0 _ _ 1000 v cs ls w h.at0 hc hz).mono ?_
  rintro e w' ⟨b, (⟨_, rfl⟩ | ⟨_, h1, _⟩ | ⟨hr, _, rfl, h1⟩)⟩
  · exact ⟨g, 1, _, _, rfl, h.after b, hem, b⟩
  · have := cntTo_le (overT (List.replicate 256 false) (putTo (fun _ => none) cs ls cs.length)) 256
    omega
  · exact ⟨_, 0, _, _, rfl, h1, over_small hem (PGood.none.putTo cs ls (fun i x hx => ⟨(rightC_keys hr hx).1, by
      obtain ⟨A, c, e, _⟩ := hc.bods.2 i x hx
      simp only [Value.slice.injEq] at e
      rw [← e.2.1]
      exact (rightC_keys hr hx).2⟩) cs.length (Nat.le_refl _)), b⟩
end Go.Proofs.Ytppodbijdhcclaa

