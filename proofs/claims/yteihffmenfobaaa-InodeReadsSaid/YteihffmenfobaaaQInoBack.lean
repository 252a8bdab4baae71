/- What was written of an inode is read as it. No condition. -/
import Derived.Test.YteihffmenfobaaaQInoRead
import Derived.Test.YteihffmenfobaaaQInoWrite
namespace Go.Proofs.Yteihffmenfobaaa
open Go.RowKit
theorem r1_cons (b : UInt8) (l : List UInt8) : r1 (b :: l) = b.toNat := by simp [r1, le]
theorem ebytes_eq (e : EN) : ebytes e = UInt8.ofNat e.i.toNat :: UInt8.ofNat e.n.size :: e.n.data.toList := by
  have hw : wid 1 = 1 := rfl
  unfold ebytes
  rw [hw]
  rfl
theorem okE_facts {e : EN} (h : okE e = true) : 1 ≤ e.i ∧ e.i ≤ 24 ∧ e.n.size ≤ 12 := by
  unfold okE at h
  simp only [Bool.and_eq_true] at h
  have h1 := (of_decide_eq_true h.1).2.1
  have h2 := of_decide_eq_true h.2.1
  have h3 := of_decide_eq_true h.2.2
  exact ⟨h2, h3, by rw [Lib.size_eq]; exact h1⟩
theorem rEnt_back {e : EN} (h : okE e = true) (rest : List UInt8) : rEnt (ebytes e ++ rest) = e ∧ rRest (ebytes e ++ rest) = rest ∧ rBad false (ebytes e ++ rest) = false := by
  obtain ⟨h1, h2, h3⟩ := okE_facts h
  have hs := Lib.size_eq e.n
  have e2 : (UInt8.ofNat e.n.size).toNat = e.n.size := by rw [UInt8.toNat_ofNat']; omega
  have e1 : (UInt8.ofNat e.i.toNat).toNat = e.i.toNat := by rw [UInt8.toNat_ofNat']; omega
  rw [ebytes_eq]
  simp only [List.cons_append]
  unfold rEnt rRest rBad
  simp only [List.drop_succ_cons, List.drop_zero, r1_cons, e1, e2]
  refine ⟨?_, ?_, ?_⟩
  · unfold rTake
    rw [if_pos (by rw [List.length_append]; omega), hs, List.take_left]
    obtain ⟨n, i⟩ := e
    simp only at h1 ⊢
    congr 1
    omega
  · rw [hs, List.drop_left]
  · simp only [List.length_cons, List.length_append, Bool.false_or, Bool.or_eq_false_iff, decide_eq_false_iff_not]
    omega
theorem rEs_back : ∀ (es : List EN) (rest : List UInt8), (∀ e ∈ es, okE e = true) → rEs es.length (es.flatMap ebytes ++ rest) false = (es, rest, false)
  | [], rest, _ => rfl
  | e :: es, rest, h => by
    obtain ⟨h1, h2, h3⟩ := rEnt_back (h e (by simp)) (es.flatMap ebytes ++ rest)
    have ih := rEs_back es rest fun x hx => h x (by simp [hx])
    simp only [List.flatMap_cons, List.append_assoc, List.length_cons, rEs, h1, h2, h3, ih]
theorem inoR_back {n : IN} (h : n.ok) : inoR n.bytes = some n := by
  have hok := h
  obtain ⟨k, z, es⟩ := n
  rcases h with ⟨h1, h2, h3, h4⟩ | ⟨h1, h2, h3, h4⟩
  · simp only at h1 h2 h3 h4
    subst h1
    obtain rfl : es = [] := List.eq_nil_of_length_eq_zero h4
    obtain ⟨q, rfl⟩ : ∃ q : Nat, z = q := ⟨z.toNat, by omega⟩
    have hb : IN.bytes ⟨1, q, []⟩ = UInt8.ofNat 1 :: numB 2 q := by unfold IN.bytes; rw [if_pos rfl]; rfl
    have hl : (numB 2 q).length = 2 := numB_length 2 q
    have hr : rn2 (numB 2 q) = q := by
      unfold rn2
      rw [if_pos (by omega), List.take_of_length_le (by omega), le_numB]
      omega
    have hp : rPre (UInt8.ofNat 1 :: numB 2 q) = (⟨1, (q : Int), []⟩, [], false) := by
      unfold rPre
      rw [if_pos (by rw [r1_cons]; rfl)]
      simp only [List.drop_succ_cons, List.drop_zero, hr, List.length_cons, hl]
      rw [List.drop_of_length_le (by omega)]
      rfl
    rw [hb]
    unfold inoR
    rw [hp]
    exact if_pos ⟨by rw [List.length_cons]; omega, rfl, rfl, hok⟩
  · simp only at h1 h2 h3 h4
    subst h1
    subst h2
    have hg := good_all h4
    have hb : IN.bytes ⟨2, 0, es⟩ = UInt8.ofNat 2 :: UInt8.ofNat es.length :: es.flatMap ebytes := by unfold IN.bytes; rw [if_neg (by simp)]; rfl
    have hn : (UInt8.ofNat es.length).toNat = es.length := by rw [UInt8.toNat_ofNat']; omega
    have hx := rEs_back es [] hg
    rw [List.append_nil] at hx
    have hp : rPre (UInt8.ofNat 2 :: UInt8.ofNat es.length :: es.flatMap ebytes) = (⟨2, 0, es⟩, [], false) := by
      unfold rPre
      rw [if_neg (by rw [r1_cons]; decide), if_pos (by rw [r1_cons]; rfl)]
      simp only [List.drop_succ_cons, List.drop_zero, r1_cons, hn, List.length_cons]
      rw [show (decide ((es.flatMap ebytes).length + 1 + 1 < 1) || decide ((es.flatMap ebytes).length + 1 < 1)) = false by simp, hx]
    rw [hb]
    unfold inoR
    rw [hp]
    refine if_pos ⟨?_, rfl, rfl, hok⟩
    have := flat_bytes_le es hg
    simp only [List.length_cons]
    omega
end Go.Proofs.Yteihffmenfobaaa

