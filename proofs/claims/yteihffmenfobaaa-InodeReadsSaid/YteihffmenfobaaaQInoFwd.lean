/- What is read as an inode is written as the same bytes; when nothing is read. No condition. -/
import Derived.Test.YteihffmenfobaaaQInoBack
namespace Go.Proofs.Yteihffmenfobaaa
open Go.RowKit
theorem rEs_bad : ∀ (n : Nat) (l : List UInt8), (rEs n l true).2.2 = true
  | 0, _ => rfl
  | n + 1, l => by
    have h : rBad true l = true := by simp [rBad]
    simp only [rEs, h]
    exact rEs_bad n (rRest l)
theorem rEs_len : ∀ (n : Nat) (l : List UInt8) (b : Bool), (rEs n l b).1.length = n
  | 0, _, _ => rfl
  | n + 1, l, b => by simp only [rEs, List.length_cons, rEs_len n]
theorem ofNat_toNat (b : UInt8) : UInt8.ofNat b.toNat = b := by
  apply UInt8.toNat_inj.1
  rw [UInt8.toNat_ofNat']
  have := b.toNat_lt
  omega
theorem rEnt_fwd {l : List UInt8} (h : rBad false l = false) : ebytes (rEnt l) ++ rRest l = l ∧ 2 ≤ l.length := by
  match l with
  | [] => simp [rBad] at h
  | [a] => simp [rBad] at h
  | a :: b :: t =>
    have h1 : ¬ t.length < b.toNat := by
      unfold rBad at h
      simp only [List.drop_succ_cons, List.drop_zero, r1_cons, Bool.or_eq_false_iff, decide_eq_false_iff_not] at h
      exact h.2
    refine ⟨?_, by simp⟩
    rw [ebytes_eq]
    unfold rEnt rRest rTake
    simp only [List.drop_succ_cons, List.drop_zero, r1_cons]
    rw [if_pos (by omega)]
    have e1 : ((a.toNat : Int)).toNat = a.toNat := by omega
    have e2 : (⟨(t.take b.toNat).toArray⟩ : ByteArray).size = b.toNat := by
      rw [Lib.size_eq]
      show (t.take b.toNat).length = _
      rw [List.length_take]
      omega
    rw [e1, e2, ofNat_toNat, ofNat_toNat]
    show a :: b :: (t.take b.toNat ++ t.drop b.toNat) = _
    rw [List.take_append_drop]
theorem rEs_fwd : ∀ (n : Nat) (l : List UInt8), (rEs n l false).2.2 = false → l = (rEs n l false).1.flatMap ebytes ++ (rEs n l false).2.1
  | 0, l, _ => rfl
  | n + 1, l, h => by
    simp only [rEs] at h ⊢
    cases hb : rBad false l with
    | true =>
      rw [hb, rEs_bad] at h
      cases h
    | false =>
      rw [hb] at h
      have ih := rEs_fwd n (rRest l) h
      have hf := (rEnt_fwd hb).1
      rw [List.flatMap_cons, List.append_assoc, ← ih]
      exact hf.symm
theorem inoR_dir (a b : UInt8) (t : List UInt8) (ha : a.toNat = 2) : inoR (a :: b :: t) = if (rEs b.toNat t false).2.2 = false ∧ (rEs b.toNat t false).2.1 = [] ∧ IN.ok ⟨2, 0, (rEs b.toNat t false).1⟩ then some ⟨2, 0, (rEs b.toNat t false).1⟩ else none := by
  have hp : rPre (a :: b :: t) = (⟨2, 0, (rEs b.toNat t false).1⟩, (rEs b.toNat t false).2) := by
    unfold rPre
    rw [if_neg (by rw [r1_cons]; omega), if_pos (by rw [r1_cons]; exact ha)]
    simp only [List.drop_succ_cons, List.drop_zero, r1_cons, List.length_cons]
    rw [show (decide (t.length + 1 + 1 < 1) || decide (t.length + 1 < 1)) = false by simp]
  unfold inoR
  rw [hp]
  by_cases h : (rEs b.toNat t false).2.2 = false ∧ (rEs b.toNat t false).2.1 = [] ∧ IN.ok ⟨2, 0, (rEs b.toNat t false).1⟩
  · rw [if_pos h, if_pos]
    refine ⟨?_, h.1, h.2.1, h.2.2⟩
    have hd : IN.dir ⟨2, 0, (rEs b.toNat t false).1⟩ := h.2.2.elim (fun x => absurd x.1 (show ¬ (2 : Int) = 1 by decide)) id
    have h1 : ((rEs b.toNat t false).1.flatMap ebytes).length ≤ 14 * (rEs b.toNat t false).1.length := flat_bytes_le _ (good_all hd.2.2.2)
    have h2 := rEs_fwd b.toNat t h.1
    rw [h.2.1, List.append_nil] at h2
    have h3 : (rEs b.toNat t false).1.length ≤ 8 := hd.2.2.1
    rw [← h2] at h1
    simp only [List.length_cons]
    omega
  · rw [if_neg h, if_neg]
    exact fun h2 => h ⟨h2.2.1, h2.2.2.1, h2.2.2.2⟩
theorem not_ok {k z : Int} {es : List EN} (h1 : k ≠ 1) (h2 : k ≠ 2) : ¬ IN.ok ⟨k, z, es⟩ := fun h => h.elim (fun x => h1 x.1) (fun x => h2 x.1)
theorem inoR_nil : inoR [] = none := by
  unfold inoR
  rw [if_neg]
  rintro ⟨_, h, _⟩
  simp [rPre, r1, le] at h
theorem inoR_one (a : UInt8) : inoR [a] = none := by
  unfold inoR
  rw [if_neg]
  rintro ⟨_, h, _, h3⟩
  unfold rPre at h h3
  rw [r1_cons] at h h3
  split at h
  · simp at h
  · split at h
    · rw [show ([a] : List UInt8).drop 1 = [] from rfl, show r1 [] = 0 from rfl] at h
      simp [rEs] at h
    · rename_i h1 h2
      rw [if_neg h1, if_neg h2] at h3
      exact not_ok (by omega) (by omega) h3
theorem inoR_kind (a b : UInt8) (t : List UInt8) (ha : a.toNat ≠ 2) (h1 : ¬ (a.toNat = 1 ∧ t.length = 1)) : inoR (a :: b :: t) = none := by
  unfold inoR
  rw [if_neg]
  rintro ⟨_, h, h4, h3⟩
  unfold rPre at h h3 h4
  rw [r1_cons] at h h3 h4
  by_cases hk : a.toNat = 1
  · rw [if_pos hk] at h h4
    simp only [List.drop_succ_cons, List.drop_zero, List.length_cons, Bool.or_eq_false_iff, decide_eq_false_iff_not] at h h4
    match t, h, h4, h1 with
    | [], h, _, _ => simp at h
    | [c], _, _, h1 => exact h1 ⟨hk, rfl⟩
    | c :: d :: r, _, h4, _ => simp at h4
  · rw [if_neg hk, if_neg ha] at h3
    exact not_ok (by omega) (by omega) h3
theorem inoR_file (a x y : UInt8) (ha : a.toNat = 1) : inoR [a, x, y] = if IN.ok ⟨1, (x.toNat : Int) + 256 * (y.toNat : Int), []⟩ then some ⟨1, (x.toNat : Int) + 256 * (y.toNat : Int), []⟩ else none := by
  have hr : rn2 [x, y] = x.toNat + 256 * y.toNat := by simp [rn2, le]
  have hp : rPre [a, x, y] = (⟨1, (x.toNat : Int) + 256 * (y.toNat : Int), []⟩, [], false) := by
    unfold rPre
    rw [if_pos (by rw [r1_cons]; exact ha)]
    simp only [List.drop_succ_cons, List.drop_zero, hr]
    simp
  unfold inoR
  rw [hp]
  by_cases h : IN.ok ⟨1, (x.toNat : Int) + 256 * (y.toNat : Int), []⟩
  · rw [if_pos h, if_pos ⟨by simp, rfl, rfl, h⟩]
  · rw [if_neg h, if_neg fun h2 => h h2.2.2.2]
/-- what was read is written as the same bytes -/
theorem inoR_fwd {l : List UInt8} {n : IN} (h : inoR l = some n) : n.bytes = l ∧ n.ok := by
  match l with
  | [] => rw [inoR_nil] at h; cases h
  | [a] => rw [inoR_one] at h; cases h
  | a :: b :: t =>
    by_cases ha : a.toNat = 2
    · rw [inoR_dir a b t ha] at h
      split at h
      · rename_i hc
        cases h
        refine ⟨?_, hc.2.2⟩
        have h2 := rEs_fwd b.toNat t hc.1
        rw [hc.2.1, List.append_nil] at h2
        unfold IN.bytes
        rw [if_neg (by simp)]
        simp only [rEs_len]
        rw [← h2]
        show UInt8.ofNat 2 :: UInt8.ofNat b.toNat :: t = _
        rw [ofNat_toNat, ← ha, ofNat_toNat]
      · cases h
    · by_cases h1 : a.toNat = 1 ∧ t.length = 1
      · obtain ⟨h1, h2⟩ := h1
        obtain ⟨y, rfl⟩ := List.length_eq_one_iff.1 h2
        rw [inoR_file a b y h1] at h
        split at h
        · rename_i hc
          cases h
          refine ⟨?_, hc⟩
          unfold IN.bytes
          rw [if_pos rfl]
          have e : ((b.toNat : Int) + 256 * (y.toNat : Int)).toNat = b.toNat + 256 * y.toNat := by omega
          simp only [e]
          show UInt8.ofNat 1 :: UInt8.ofNat (b.toNat + 256 * y.toNat) :: UInt8.ofNat ((b.toNat + 256 * y.toNat) / 256) :: [] = _
          have hb := b.toNat_lt
          have e1 : (b.toNat + 256 * y.toNat) / 256 = y.toNat := by omega
          have e2 : UInt8.ofNat (b.toNat + 256 * y.toNat) = b := by
            apply UInt8.toNat_inj.1
            rw [UInt8.toNat_ofNat']
            omega
          rw [e1, e2, ofNat_toNat, ← h1, ofNat_toNat]
        · cases h
      · rw [inoR_kind a b t ha h1] at h
        cases h
end Go.Proofs.Yteihffmenfobaaa

