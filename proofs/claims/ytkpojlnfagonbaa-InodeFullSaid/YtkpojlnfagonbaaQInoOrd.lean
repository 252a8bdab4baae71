/- How names stand, and which inodes are right, plainly; what cmp.Compare and byName answer. No condition. -/
import Derived.Test.YtkpojlnfagonbaaQIno
import Derived.Laws.Cover1
namespace Go.Proofs.Ytkpojlnfagonbaa
open Go.RowKit Go.Shelf
def less (a b : ByteArray) : Bool := Op.bytesLess a.toList b.toList
theorem bl_irrefl : ∀ x : List UInt8, Op.bytesLess x x = false
  | [] => rfl
  | a :: x => by simp [Op.bytesLess, bl_irrefl x]
theorem bl_asymm : ∀ x y : List UInt8, Op.bytesLess x y = true → Op.bytesLess y x = false
  | x, [], h => by cases x <;> simp [Op.bytesLess] at h
  | [], _ :: _, _ => rfl
  | a :: x, b :: y, h => by
    have ih := bl_asymm x y
    simp only [Op.bytesLess, Bool.or_eq_true, Bool.and_eq_true, decide_eq_true_eq, beq_iff_eq, Bool.or_eq_false_iff, Bool.and_eq_false_iff, decide_eq_false_iff_not, beq_eq_false_iff_ne] at h ⊢
    rcases h with h | ⟨rfl, h⟩
    · refine ⟨fun h' => ?_, .inl fun e => ?_⟩
      · have h1 := UInt8.lt_iff_toNat_lt.1 h; have h2 := UInt8.lt_iff_toNat_lt.1 h'; omega
      · subst e; have h1 := UInt8.lt_iff_toNat_lt.1 h; omega
    · exact ⟨fun h' => by have h1 := UInt8.lt_iff_toNat_lt.1 h'; omega, .inr (ih h)⟩
theorem bl_trans : ∀ x y z : List UInt8, Op.bytesLess x y = true → Op.bytesLess y z = true → Op.bytesLess x z = true
  | x, [], _, h, _ => by cases x <;> simp [Op.bytesLess] at h
  | _, _ :: _, [], _, h => by cases h
  | [], _ :: _, _ :: _, _, _ => rfl
  | a :: x, b :: y, c :: z, h, k => by
    have ih := bl_trans x y z
    simp only [Op.bytesLess, Bool.or_eq_true, Bool.and_eq_true, decide_eq_true_eq, beq_iff_eq] at h k ⊢
    rcases h with h | ⟨rfl, h⟩
    · rcases k with k | ⟨rfl, k⟩
      · exact .inl (UInt8.lt_iff_toNat_lt.2 (by have h1 := UInt8.lt_iff_toNat_lt.1 h; have h2 := UInt8.lt_iff_toNat_lt.1 k; omega))
      · exact .inl h
    · rcases k with k | ⟨rfl, k⟩
      · exact .inl k
      · exact .inr ⟨rfl, ih h k⟩
theorem bl_total : ∀ x y : List UInt8, Op.bytesLess x y = false → Op.bytesLess y x = false → x = y
  | [], [], _, _ => rfl
  | [], _ :: _, h, _ => by cases h
  | _ :: _, [], _, h => by cases h
  | a :: x, b :: y, h, k => by
    have ih := bl_total x y
    simp only [Op.bytesLess, Bool.or_eq_false_iff, Bool.and_eq_false_iff, decide_eq_false_iff_not, beq_eq_false_iff_ne] at h k
    have e : a = b := UInt8.toNat_inj.1 (by
      have h1 : ¬ a.toNat < b.toNat := fun h' => h.1 (UInt8.lt_iff_toNat_lt.2 h')
      have h2 : ¬ b.toNat < a.toNat := fun h' => k.1 (UInt8.lt_iff_toNat_lt.2 h')
      omega)
    subst e
    rw [ih (h.2.resolve_left fun e => e rfl) (k.2.resolve_left fun e => e rfl)]
theorem less_irrefl (a : ByteArray) : less a a = false := bl_irrefl _
theorem less_asymm {a b : ByteArray} (h : less a b = true) : less b a = false := bl_asymm _ _ h
theorem less_trans {a b c : ByteArray} (h : less a b = true) (k : less b c = true) : less a c = true := bl_trans _ _ _ h k
theorem less_total {a b : ByteArray} (h : less a b = false) (k : less b a = false) : a = b := by
  have e := bl_total _ _ h k
  rw [Lib.toList_data, Lib.toList_data] at e
  cases a; cases b
  congr 1
  exact Array.toList_inj.1 e
/-- cmp.Compare -/
def cmpS (a b : ByteArray) : Int := if less a b = true then -1 else if a = b then 0 else 1
theorem cmpS_neg (a b : ByteArray) : decide (0 ≤ cmpS a b) = !less a b := by
  unfold cmpS
  cases h : less a b
  · rw [if_neg (by simp)]
    split <;> rfl
  · rfl
theorem nan_string (a : ByteArray) (w : World) : Calls Try.prog 73 #[.string a] w fun e w' => e = .returned (.bool false) ∧ w = w' := by
  have h : (a.toList != a.toList) = false := by simp
  go_enter Try.func73, Try.ntmps73
  go_wp2
  go_ret
  exact ⟨by simp, rfl⟩
theorem compare_string (a b : ByteArray) (w : World) : Calls Try.prog 59 #[.string a, .string b] w fun e w' => e = .returned (.int .i64 (cmpS a b)) ∧ w = w' := by
  unfold cmpS
  by_cases h : less a b = true
  · have h1 : Op.bytesLess a.toList b.toList = true := h
    rw [if_pos h]
    clear h
    go_enter Try.func59, Try.ntmps59
    go_wp2_with ((with_reducible refine (nan_string _ _).mono ?_); rintro e w' ⟨rfl, rfl⟩)
    go_ret
    exact ⟨rfl, rfl⟩
  · have h0 : less a b = false := by simpa using h
    have h1 : Op.bytesLess a.toList b.toList = false := h0
    rw [if_neg h]
    by_cases e : a = b
    · subst e
      have h2 : (a.toList == a.toList) = true := by simp
      rw [if_pos rfl]
      clear h h0
      go_enter Try.func59, Try.ntmps59
      go_wp2_with ((with_reducible refine (nan_string _ _).mono ?_); rintro e w' ⟨rfl, rfl⟩)
      go_ret
      exact ⟨rfl, rfl⟩
    · have h2 : (a.toList == b.toList) = false := by
        rw [beq_eq_false_iff_ne]
        intro e'
        refine e (less_total h0 ?_)
        unfold less
        rw [e']
        exact bl_irrefl _
      rw [if_neg e]
      clear h h0 e
      go_enter Try.func59, Try.ntmps59
      go_wp2_with ((with_reducible refine (nan_string _ _).mono ?_); rintro e w' ⟨rfl, rfl⟩)
      go_ret
      exact ⟨rfl, rfl⟩
theorem byName_any (x y : EN) (w : World) : Calls Try.prog 38 #[.agg #[.string x.n, .int .i64 x.i], .agg #[.string y.n, .int .i64 y.i]] w fun e w' => e = .returned (.int .i64 (cmpS x.n y.n)) ∧ Below w.heap.size w w' := by
  have h1 := (Below.refl w.heap.size w).alloc (Nat.le_refl _) (.cells #[.string x.n, .int .i64 x.i] 32)
  have HB := Lib.hid (h1.alloc h1.size (.cells #[.string y.n, .int .i64 y.i] 32))
  clear h1
  have KC := Lib.hid (compare_string x.n y.n)
  obtain ⟨C, hC⟩ : ∃ C, cmpS x.n y.n = C := ⟨_, rfl⟩
  rw [hC] at KC ⊢
  clear hC
  go_enter Try.func38, Try.ntmps38
  go_wp2_with (refine (KC.out _).mono ?_; rintro e w' ⟨rfl, rfl⟩)
  go_ret
  exact ⟨rfl, HB.out⟩
def atE (es : List EN) (j : Nat) : EN := es.getD j ⟨ByteArray.empty, 0⟩
theorem atE_get {es : List EN} {j : Nat} (h : j < es.length) : es[j]? = some (atE es j) := by
  unfold atE
  rw [List.getD_eq_getElem?_getD, List.getElem?_eq_getElem h]
  rfl
/-- the first k entries are right, and rise -/
def GoodTo (es : List EN) (k : Nat) : Prop := ∀ j, j < k → okE (atE es j) = true ∧ (0 < j → less (atE es (j - 1)).n (atE es j).n = true)
instance (es : List EN) (k : Nat) : Decidable (GoodTo es k) := inferInstanceAs (Decidable (∀ j, j < k → _))
theorem GoodTo.zero (es : List EN) : GoodTo es 0 := fun j h => absurd h (by omega)
theorem GoodTo.next {es : List EN} {k : Nat} (h : GoodTo es k) (h1 : okE (atE es k) = true) (h2 : 0 < k → less (atE es (k - 1)).n (atE es k).n = true) : GoodTo es (k + 1) := fun j hj => by
  rcases (show j < k ∨ j = k by omega) with h' | rfl
  · exact h j h'
  · exact ⟨h1, h2⟩
/-- an inode -/
structure IN where
  k : Int
  z : Int
  es : List EN
def IN.file (n : IN) : Prop := n.k = 1 ∧ 0 ≤ n.z ∧ n.z ≤ 768 ∧ n.es.length = 0
def IN.dir (n : IN) : Prop := n.k = 2 ∧ n.z = 0 ∧ n.es.length ≤ 8 ∧ GoodTo n.es n.es.length
instance (n : IN) : Decidable n.file := inferInstanceAs (Decidable (_ ∧ _))
instance (n : IN) : Decidable n.dir := inferInstanceAs (Decidable (_ ∧ _))
end Go.Proofs.Ytkpojlnfagonbaa

