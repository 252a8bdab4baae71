/- What CacheAtOnce needs, plainly. No condition. -/
import Derived.Test.YtppodbijdhcclaaQCacheChg
import Derived.Test.YtppodbijdhcclaaQCacheSpeaks
namespace Go.Proofs.Ytppodbijdhcclaa
open Go Go.RowKit
theorem byte_testBit {a b : UInt8} (h : ∀ r, r < 8 → a.toNat.testBit r = b.toNat.testBit r) : a = b := by
  apply UInt8.toNat_inj.1
  apply Nat.eq_of_testBit_eq
  intro i
  by_cases hi : i < 8
  · exact h i hi
  · have e : ∀ x : UInt8, x.toNat.testBit i = false := fun x => Nat.testBit_lt_two_pow (Nat.lt_of_lt_of_le x.toNat_lt (by
      have : (2 : Nat) ^ 8 ≤ 2 ^ i := Nat.pow_le_pow_right (by omega) (by omega)
      omega))
    rw [e, e]
/-- sets that agree everywhere are one -/
theorem live_ext {L M : List UInt8} (hL : L.length = 32) (hM : M.length = 32) (h : ∀ z, lhas L z = lhas M z) : L = M := by
  refine List.ext_getElem (by rw [hL, hM]) (fun i h1 h2 => byte_testBit (fun r hr => ?_))
  have := h ((8 * i + r : Nat) : Int)
  rw [lhas_nat L (by omega), lhas_nat M (by omega)] at this
  unfold hasB at this
  rw [show (8 * i + r) / 8 = i by omega, show (8 * i + r) % 8 = r by omega] at this
  simpa [List.getD_eq_getElem?_getD, List.getElem?_eq_getElem h1, List.getElem?_eq_getElem h2] using this
theorem kg_get {cs ds : List CV} (h : cs.map kg = ds.map kg) (k : Nat) : (cs.getD k ⟨0, false, none, 0, 0⟩).k = (ds.getD k ⟨0, false, none, 0, 0⟩).k ∧ (cs.getD k ⟨0, false, none, 0, 0⟩).g = (ds.getD k ⟨0, false, none, 0, 0⟩).g := by
  have h1 : (cs.map kg)[k]? = (ds.map kg)[k]? := by rw [h]
  rw [List.getElem?_map, List.getElem?_map] at h1
  rw [List.getD_eq_getElem?_getD, List.getD_eq_getElem?_getD]
  cases hc : cs[k]? with
  | none =>
    rw [hc] at h1
    cases hd : ds[k]? with
    | none => exact ⟨rfl, rfl⟩
    | some y => rw [hd] at h1; cases h1
  | some x =>
    rw [hc] at h1
    cases hd : ds[k]? with
    | none => rw [hd] at h1; cases h1
    | some y =>
      rw [hd] at h1
      simp only [Option.map_some, Option.some.injEq, kg, Prod.mk.injEq] at h1
      exact ⟨h1.1, h1.2⟩
theorem putTo_kg {cs ds : List CV} (P : Int → Option CE) (ls : List (List UInt8)) (h : cs.map kg = ds.map kg) : ∀ k, putTo P cs ls k = putTo P ds ls k
  | 0 => rfl
  | k + 1 => by
    show putP (putTo P cs ls k) _ _ _ = putP (putTo P ds ls k) _ _ _
    rw [putTo_kg P ls h k, (kg_get h k).1, (kg_get h k).2]
theorem filter_or_len (p q : Nat → Bool) (j : Nat) (h : ∀ k, k ≠ j → p k = q k) : ∀ n, ((List.range n).filter p).length ≤ ((List.range n).filter q).length + if j < n then 1 else 0
  | 0 => by simp
  | n + 1 => by
    have ih := filter_or_len p q j h n
    rw [List.range_succ, List.filter_append, List.filter_append, List.length_append, List.length_append]
    by_cases e : n = j
    · subst e
      rw [if_neg (by omega)] at ih
      rw [if_pos (by omega)]
      have h1 : ([n].filter p).length ≤ 1 := List.length_filter_le _ _
      omega
    · have h2 : [n].filter p = [n].filter q := by rw [List.filter_cons, List.filter_cons, h n e]; rfl
      rw [h2]
      by_cases h3 : j < n
      · rw [if_pos h3] at ih; rw [if_pos (by omega)]; omega
      · rw [if_neg h3] at ih; rw [if_neg (by omega)]; omega
theorem cntP_put (th : List Bool) (P : Int → Option CE) (k : Int) (g : Bool) (l : List UInt8) : cntP (liveP th (putP P k g l)) ≤ cntP (liveP th P) + 1 := by
  unfold cntP
  have h := filter_or_len (fun i : Nat => liveP th (putP P k g l) (i : Int)) (fun i : Nat => liveP th P (i : Int)) k.toNat (fun i hi => by
    unfold liveP putP
    rw [if_neg (by omega)]) 256
  refine Nat.le_trans h ?_
  split <;> omega
theorem cntP_putTo (th : List Bool) (P : Int → Option CE) (cs : List CV) (ls : List (List UInt8)) : ∀ k, cntP (liveP th (putTo P cs ls k)) ≤ cntP (liveP th P) + k
  | 0 => Nat.le_refl _
  | k + 1 => by
    have h := cntP_putTo th P cs ls k
    have h2 := cntP_put th (putTo P cs ls k) (cs.getD k ⟨0, false, none, 0, 0⟩).k (cs.getD k ⟨0, false, none, 0, 0⟩).g (ls.getD k [])
    show cntP (liveP th (putP _ _ _ _)) ≤ _
    omega
theorem cntP_fa : cntP (liveP fa (fun _ => none)) = 0 := by
  unfold cntP
  have : (List.range 256).filter (fun k : Nat => liveP fa (fun _ => none) (k : Int)) = [] := List.filter_eq_nil_iff.2 (fun k hk => by
    have hk2 : k < 256 := by simpa using hk
    unfold liveP
    dsimp only
    rw [Int.toNat_natCast]
    unfold fa
    rw [List.getD_eq_getElem?_getD, List.getElem?_replicate, if_pos hk2]
    simp)
  rw [this]
  rfl
theorem chgTo_none (th : List Bool) : ∀ k, chgTo th (fun _ => none) k = []
  | 0 => rfl
  | k + 1 => by rw [chgTo_no (fun e h => by cases h), chgTo_none th k]
theorem rightC_one {x : CV} (h : (0 ≤ x.k ∧ x.k < 256) ∧ x.n ≤ 224) : rightC lzeros [x] = true := by
  unfold rightC
  rw [if_pos ⟨by unfold fitC; simp [h.1, h.2], lhas_lzeros x.k⟩]
  rfl
theorem ChOwn.n_eq {w : World} {base : Nat} {v : Value} {cs : List CV} {ls : List (List UInt8)} (h : ChOwn w base v cs ls) {i : Nat} {x : CV} (hx : cs[i]? = some x) : x.n = (ls.getD i []).length := by
  obtain ⟨A, c, e, _⟩ := h.bods i x hx
  simp only [Value.slice.injEq] at e
  exact e.2.1
/-- one change more -/
theorem putTo_one (P : Int → Option CE) (x : CV) (l : List UInt8) : putTo P [x] [l] 1 = putP P x.k x.g l := rfl
/-- one change is put, where there is room -/
theorem put_one_cat (i : CI) (N : Nat) (P : Int → Option CE) (S : Nat → Prop) (x : CV) (l : List UInt8) (w : World) (h : CAt w i N P S) (hx : (0 ≤ x.k ∧ x.k < 256) ∧ x.n ≤ 224) (hl : Bytes w w.heap.size (.slice x.A x.n x.c) l) (hn : ¬ (i.mo < (cntP (liveP i.th (putP P x.k x.g l)) : Int) ∧ cntP (liveP i.th P) < cntP (liveP i.th (putP P x.k x.g l)))) (hN : N ≤ 1000000) :
    Calls Try.prog 19 #[.pointer (some ⟨i.q, 0, none⟩), .slice (some ⟨w.heap.size, 0, none⟩) 1 1] (w.alloc (.cells #[.int .i64 x.k, .bool x.g, .slice x.A x.n x.c] 46)) fun e w' => e = .returned (.int .i64 0) ∧ w.grownBy w' (some i.m) ∧ ∃ S', CAt w' i (N + 1) (putP P x.k x.g l) S' := by
  have hb := (Below.refl w.heap.size w).alloc (Nat.le_refl _) (.cells #[.int .i64 x.k, .bool x.g, .slice x.A x.n x.c] 46)
  refine (put_cat i N P S (.slice (some ⟨w.heap.size, 0, none⟩) 1 1) [x] [l] _ (h.alloc _) (chs_one (Blk.new3c w _ _ _ _)) ⟨rfl, fun j y hy => by
    cases j with
    | zero => cases hy; exact (hl.below hb).more hb.size
    | succ j => cases hy⟩ (by simp) hN).mono ?_
  rintro e w' (⟨h1, _⟩ | ⟨_, h1, _⟩ | ⟨_, _, h1, h2, h3⟩)
  · rw [rightC_one hx] at h1; cases h1
  · exact absurd h1 hn
  · exact ⟨h1, only_trans (only_of_below hb _) h2, _, h3⟩
end Go.Proofs.Ytppodbijdhcclaa

