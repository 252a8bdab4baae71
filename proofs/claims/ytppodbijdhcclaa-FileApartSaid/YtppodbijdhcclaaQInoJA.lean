/- Several texts of the proof, joined: what each has is said at its head. -/
import Derived.Test.YtppodbijdhcclaaQNameJ
import Derived.Test.YtppodbijdhcclaaQCore
import Derived.Laws.Cover1
import Derived.Test.YtppodbijdhcclaaQWearCells
import Derived.Test.YtppodbijdhcclaaQYieldsOne
import Derived.Laws.Runes
import Derived.Deep.RegionHeld3
import Derived.Deep.LoopGhost
/- Entries of directories, plainly and in memory; which entry is right; how names stand. No condition. -/
namespace Go.Proofs.Ytppodbijdhcclaa
open Go.RowKit Go.Shelf
/-- an entry -/
structure EN where
  n : ByteArray
  i : Int
def erow (e : EN) : List Value := [.string e.n, .int .i64 e.i]
def erows (es : List EN) : List Value := es.flatMap erow
theorem erows_length (es : List EN) : (erows es).length = es.length * 2 := by
  induction es with
  | nil => rfl
  | cons e es ih =>
    simp only [erows, List.flatMap_cons, List.length_append, List.length_cons] at ih ⊢
    rw [ih]
    show 2 + _ = _
    omega
theorem erows_append (a b : List EN) : erows (a ++ b) = erows a ++ erows b := by simp [erows]
theorem erows_get : ∀ (es : List EN) (i j : Nat) (e : EN) (u : Value), es[i]? = some e → (erow e)[j]? = some u → (erows es)[i * 2 + j]? = some u
  | x :: es, 0, j, e, u, h, hu => by
    obtain rfl : x = e := by simpa using h
    have hj := get_lt hu
    show (erow x ++ erows es)[0 * 2 + j]? = some u
    rw [Nat.zero_mul, Nat.zero_add, List.getElem?_append_left hj]
    exact hu
  | x :: es, i + 1, j, e, u, h, hu => by
    have ih := erows_get es i j e u (by simpa using h) hu
    show (erow x ++ erows es)[(i + 1) * 2 + j]? = some u
    rw [List.getElem?_append_right (by show 2 ≤ _; omega), show (i + 1) * 2 + j - (erow x).length = i * 2 + j by show _ - 2 = _; omega]
    exact ih
theorem erow_one {es : List EN} : ∀ u ∈ erows es, u.oneCell' = true := fun u hu => by
  obtain ⟨e, _, he⟩ := List.mem_flatMap.1 hu
  simp only [erow, List.mem_cons, List.mem_nil_iff, or_false] at he
  rcases he with rfl | rfl <;> rfl
/-- v is a slice of the entries es -/
def Ents (w : World) (B : Nat) (v : Value) (es : List EN) : Prop :=
  ∃ A c, v = .slice A es.length c ∧ es.length ≤ c ∧ c ≤ maxLen ∧ Row w B A (erows es)
section
variable {w w' : World} {B B' : Nat} {v : Value} {es : List EN}
theorem Ents.keep (h : Ents w B v es) (hk : ∀ p : Addr, p.block < B → w'.cell? p = w.cell? p) : Ents w' B v es := by
  obtain ⟨A, c, e, h1, h2, h3⟩ := h
  exact ⟨A, c, e, h1, h2, h3.keep hk⟩
theorem Ents.more (h : Ents w B v es) (hB : B ≤ B') : Ents w B' v es := by
  obtain ⟨A, c, e, h1, h2, h3⟩ := h
  exact ⟨A, c, e, h1, h2, h3.more hB⟩
theorem Ents.below (h : Ents w B v es) (hb : Below B w w') : Ents w' B v es := h.keep fun _ hp => hb.cell hp
theorem Ents.after (h : Ents w w.heap.size v es) (hb : Below w.heap.size w w') : Ents w' w'.heap.size v es := (h.below hb).more hb.size
theorem Ents.nil (c : Nat) (hc : c ≤ maxLen) : Ents w B (.slice none 0 c) [] := ⟨none, c, rfl, Nat.zero_le _, hc, Row.nil⟩
theorem Ents.shape (h : Ents w B v es) : ∃ A c, v = .slice A es.length c ∧ es.length ≤ c ∧ c ≤ 9223372036854775807 := by
  obtain ⟨A, c, e, h1, h2, _⟩ := h
  exact ⟨A, c, e, h1, h2⟩
theorem Ents.elem {A : Option Addr} {n c : Nat} (h : Ents w B (.slice A n c) es) {k : Nat} {e : EN} (hk : es[k]? = some e) :
    ∃ a, A = some a ∧ a.block < B ∧ ∀ j u, (erow e)[j]? = some u → w.cell? ((a.add (k * 2)).add j) = some u := by
  obtain ⟨_, _, e1, _, _, hr⟩ := h
  cases e1
  obtain ⟨a, rfl, hb, _⟩ := hr (k * 2 + 0) _ (erows_get es k 0 e _ hk rfl)
  refine ⟨a, rfl, hb, fun j u hu => ?_⟩
  obtain ⟨a', e', _, hc⟩ := hr (k * 2 + j) _ (erows_get es k j e _ hk hu)
  cases e'
  rw [add_twice]
  exact hc
end
/-- a slice of entries of the call's own -/
def OwnE (w : World) (base : Nat) (v : Value) (es : List EN) : Prop := w.ownsRow base 129 2 v es.length (erows es)
theorem OwnE.shape {w : World} {base : Nat} {v : Value} {es : List EN} (h : OwnE w base v es) : ∃ A c, v = .slice A es.length c ∧ es.length ≤ c ∧ c ≤ 9223372036854775807 := by
  rcases h.2 with ⟨rfl, h0⟩ | ⟨g, cap, cur, rfl, _, _, hn, hcap, _⟩
  · exact ⟨none, 0, by rw [h0], by omega, by omega⟩
  · exact ⟨_, cap, rfl, hn, hcap⟩
theorem OwnE.ents {w : World} {base : Nat} {v : Value} {es : List EN} (h : OwnE w base v es) : Ents w w.heap.size v es := by
  obtain ⟨A, c, rfl, h1, h2⟩ := h.shape
  refine ⟨A, c, rfl, h1, h2, fun j u hu => ?_⟩
  have hlt := h.lt
  have hc : ∀ {g : Nat}, (Value.slice A es.length c).ownBlock = some g → ∀ j u, (erows es)[j]? = some u → w.cell? ((⟨g, 0, none⟩ : Addr).add j) = some u := fun hg => World.ownsRow.cells h hg
  rcases h.2 with ⟨hv, h0⟩ | ⟨g, cap, cur, hv, _, _, _, _⟩
  · have hx := h.1
    rw [h0] at hx
    have := get_lt hu
    omega
  · cases hv
    exact ⟨_, rfl, (hlt g rfl).2, hc rfl j u hu⟩
theorem OwnE.made (w : World) (base : Nat) (hb : base ≤ w.heap.size) (g : Nat) (hg : g = w.heap.size) : OwnE (w.alloc (.cells #[] 129)) base (.slice (some ⟨g, 0, none⟩) 0 0) [] := by
  subst hg
  exact World.ownsRow_made (size := 2) w #[] 0 hb (by simp [maxLen]) (by simp)
theorem OwnE.nil (w : World) (base : Nat) : OwnE w base (.slice none 0 0) [] := World.ownsRow_nil w base _ 2
theorem OwnE.kept {w w' : World} {base : Nat} {v : Value} {es : List EN} (h : OwnE w base v es) (hb : Below w.heap.size w w') : OwnE w' base v es :=
  World.ownsRow.kept (row := none) h (only_of_below hb none) (by cases v.ownBlock <;> simp)
theorem OwnE.lower {w : World} {base base' : Nat} {v : Value} {es : List EN} (h : OwnE w base v es) (hb : base' ≤ base) : OwnE w base' v es := by
  obtain ⟨x1, x2⟩ := h
  refine ⟨x1, ?_⟩
  rcases x2 with x2 | ⟨y1, y2, y3, y4, y5, y6⟩
  · exact .inl x2
  · exact .inr ⟨y1, y2, y3, y4, Nat.le_trans hb y5, y6⟩
theorem aggE : ∀ w, (isAgg 129).run Try.prog w = .ok true w := fun _ => by kernel_rfl
theorem sizeE : ∀ w, (sizeOf 129).run Try.prog w = .ok 2 w := fun _ => by kernel_rfl
theorem infoE : (Try.prog.info? 129).map (fun i => (i.zero, i.size, i.bytes)) = some (some (.agg #[.string ByteArray.empty, .int .i64 0]), 2, 24) := by kernel_rfl
/-- may a directory have it? -/
def okE (e : EN) : Bool := rightL e.n.data.toList && (decide (1 ≤ e.i) && decide (e.i ≤ 24))
theorem isInode_any (i : Int) (w : World) : Calls Try.prog 73 #[.int .i64 i] w fun e w' => e = .returned (.bool (decide (1 ≤ i) && decide (i ≤ 24))) ∧ w = w' := by
  by_cases h1 : 1 ≤ i
  · by_cases h2 : i ≤ 24
    · rw [decide_eq_true h1, decide_eq_true h2]
      go_enter Try.func73, Try.ntmps73
      go_wp2
      go_ret
      exact ⟨rfl, rfl⟩
    · rw [decide_eq_true h1, decide_eq_false h2]
      go_enter Try.func73, Try.ntmps73
      go_wp2
      go_ret
      exact ⟨rfl, rfl⟩
  · rw [decide_eq_false h1, Bool.false_and]
    go_enter Try.func73, Try.ntmps73
    go_wp2
    go_ret
    exact ⟨rfl, rfl⟩
set_option maxRecDepth 100000 in
theorem rightEntry_any (e : EN) (w : World) : Calls Try.prog 90 #[.agg #[.string e.n, .int .i64 e.i]] w fun x w' => x = .returned (.bool (okE e)) ∧ Below w.heap.size w w' := by
  have hb := (Below.refl w.heap.size w).alloc (Nat.le_refl _) (.cells #[.string e.n, .int .i64 e.i] 129)
  have HB := Lib.hid hb
  have KR := Lib.hid (right_any e.n (w.alloc (.cells #[.string e.n, .int .i64 e.i] 129)))
  unfold okE
  obtain ⟨R, hR⟩ : ∃ R, rightL e.n.data.toList = R := ⟨_, rfl⟩
  rw [hR] at KR ⊢
  have KI := Lib.hid (isInode_any e.i)
  obtain ⟨I, hI⟩ : ∃ I, (decide (1 ≤ e.i) && decide (e.i ≤ 24)) = I := ⟨_, rfl⟩
  rw [hI] at KI ⊢
  obtain ⟨n, i⟩ := e
  clear hb hR hI
  cases R with
  | false =>
    go_enter Try.func90, Try.ntmps90
    go_wp2_with fail
    refine KR.out.mono ?_
    rintro x w1 ⟨rfl, h1⟩
    go_wp2_with fail
    go_ret
    exact ⟨rfl, HB.out.trans (h1.mono HB.out.size)⟩
  | true =>
    have c1 : Hid (∀ w1, Below (w.alloc (.cells #[.string n, .int .i64 i] 129)).heap.size (w.alloc (.cells #[.string n, .int .i64 i] 129)) w1 → w1.cell? ⟨w.heap.size, 1, none⟩ = some (.int .i64 i)) := Lib.hid fun w1 h => by
      rw [h.cell (p := ⟨w.heap.size, 1, none⟩) (by simp), World.cell?_alloc_mark]
      rfl
    go_enter Try.func90, Try.ntmps90
    go_wp2_with fail
    refine KR.out.mono ?_
    rintro x w1 ⟨rfl, h1⟩
    have c2 := c1.out w1 h1
    have HB1 := Lib.hid (HB.out.trans (h1.mono HB.out.size))
    clear h1
    go_wp2_with fail
    refine (KI.out _).mono ?_
    rintro x w2 ⟨rfl, rfl⟩
    go_wp2_with fail
    go_ret
    exact ⟨rfl, HB1.out⟩
set_option maxRecDepth 100000 in
theorem fits_any (e : EN) (w : World) : Calls Try.prog 82 #[.agg #[.string e.n, .int .i64 e.i]] w fun x w' => x = .returned (.bool (okE e)) ∧ Below w.heap.size w w' := by
  have hb := (Below.refl w.heap.size w).alloc (Nat.le_refl _) (.cells #[.string e.n, .int .i64 e.i] 129)
  have HB := Lib.hid hb
  have KR := Lib.hid (refRight_any e.n)
  unfold okE
  obtain ⟨R, hR⟩ : ∃ R, rightL e.n.data.toList = R := ⟨_, rfl⟩
  rw [hR] at KR ⊢
  obtain ⟨n, i⟩ := e
  clear hb hR
  cases R with
  | false =>
    go_enter Try.func82, Try.ntmps82
    go_wp2_with fail
    refine (KR.out _).mono ?_
    rintro x w1 ⟨rfl, rfl⟩
    go_wp2_with fail
    go_ret
    exact ⟨rfl, HB.out⟩
  | true =>
    simp only [Bool.true_and]
    by_cases h1 : 1 ≤ i
    · by_cases h2 : i ≤ 24
      · rw [decide_eq_true h1, decide_eq_true h2]
        go_enter Try.func82, Try.ntmps82
        go_wp2_with fail
        refine (KR.out _).mono ?_
        rintro x w1 ⟨rfl, rfl⟩
        go_wp2_with fail
        go_ret
        exact ⟨by first | rfl | (simp; omega), HB.out⟩
      · rw [decide_eq_true h1, decide_eq_false h2]
        go_enter Try.func82, Try.ntmps82
        go_wp2_with fail
        refine (KR.out _).mono ?_
        rintro x w1 ⟨rfl, rfl⟩
        go_wp2_with fail
        go_ret
        exact ⟨by first | rfl | (simp; omega), HB.out⟩
    · rw [decide_eq_false h1, Bool.false_and]
      go_enter Try.func82, Try.ntmps82
      go_wp2_with fail
      refine (KR.out _).mono ?_
      rintro x w1 ⟨rfl, rfl⟩
      go_wp2_with fail
      go_ret
      exact ⟨rfl, HB.out⟩
end Go.Proofs.Ytppodbijdhcclaa

/- How names stand, and which inodes are right, plainly; what cmp.Compare and byName answer. No condition. -/
namespace Go.Proofs.Ytppodbijdhcclaa
open Go.RowKit Go.Shelf
def less (a b : ByteArray) : Bool := Op.bytesLess a.toList b.toList
theorem bl_irrefl : ∀ x : List UInt8, Op.bytesLess x x = false
  | [] => rfl
  | a :: x => by simp [Op.bytesLess, bl_irrefl x]
theorem bl_asymm : ∀ x y : List UInt8, Op.bytesLess x y = true → Op.bytesLess y x = false
  | x, [], h => by cases x <;> simp [Op.bytesLess] at h
  | [], _ :: _, _ => rfl
  | a :: x, b :: y, h => by
    have ih := bl_asymm x y
    simp only [Op.bytesLess, Bool.or_eq_true, Bool.and_eq_true, decide_eq_true_eq, beq_iff_eq, Bool.or_eq_false_iff, Bool.and_eq_false_iff, decide_eq_false_iff_not, beq_eq_false_iff_ne] at h ⊢
    rcases h with h | ⟨rfl, h⟩
    · refine ⟨fun h' => ?_, .inl fun e => ?_⟩
      · have h1 := UInt8.lt_iff_toNat_lt.1 h; have h2 := UInt8.lt_iff_toNat_lt.1 h'; omega
      · subst e; have h1 := UInt8.lt_iff_toNat_lt.1 h; omega
    · exact ⟨fun h' => by have h1 := UInt8.lt_iff_toNat_lt.1 h'; omega, .inr (ih h)⟩
theorem bl_trans : ∀ x y z : List UInt8, Op.bytesLess x y = true → Op.bytesLess y z = true → Op.bytesLess x z = true
  | x, [], _, h, _ => by cases x <;> simp [Op.bytesLess] at h
  | _, _ :: _, [], _, h => by cases h
  | [], _ :: _, _ :: _, _, _ => rfl
  | a :: x, b :: y, c :: z, h, k => by
    have ih := bl_trans x y z
    simp only [Op.bytesLess, Bool.or_eq_true, Bool.and_eq_true, decide_eq_true_eq, beq_iff_eq] at h k ⊢
    rcases h with h | ⟨rfl, h⟩
    · rcases k with k | ⟨rfl, k⟩
      · exact .inl (UInt8.lt_iff_toNat_lt.2 (by have h1 := UInt8.lt_iff_toNat_lt.1 h; have h2 := UInt8.lt_iff_toNat_lt.1 k; omega))
      · exact .inl h
    · rcases k with k | ⟨rfl, k⟩
      · exact .inl k
      · exact .inr ⟨rfl, ih h k⟩
theorem bl_total : ∀ x y : List UInt8, Op.bytesLess x y = false → Op.bytesLess y x = false → x = y
  | [], [], _, _ => rfl
  | [], _ :: _, h, _ => by cases h
  | _ :: _, [], _, h => by cases h
  | a :: x, b :: y, h, k => by
    have ih := bl_total x y
    simp only [Op.bytesLess, Bool.or_eq_false_iff, Bool.and_eq_false_iff, decide_eq_false_iff_not, beq_eq_false_iff_ne] at h k
    have e : a = b := UInt8.toNat_inj.1 (by
      have h1 : ¬ a.toNat < b.toNat := fun h' => h.1 (UInt8.lt_iff_toNat_lt.2 h')
      have h2 : ¬ b.toNat < a.toNat := fun h' => k.1 (UInt8.lt_iff_toNat_lt.2 h')
      omega)
    subst e
    rw [ih (h.2.resolve_left fun e => e rfl) (k.2.resolve_left fun e => e rfl)]
theorem less_irrefl (a : ByteArray) : less a a = false := bl_irrefl _
theorem less_asymm {a b : ByteArray} (h : less a b = true) : less b a = false := bl_asymm _ _ h
theorem less_trans {a b c : ByteArray} (h : less a b = true) (k : less b c = true) : less a c = true := bl_trans _ _ _ h k
theorem less_total {a b : ByteArray} (h : less a b = false) (k : less b a = false) : a = b := by
  have e := bl_total _ _ h k
  rw [Lib.toList_data, Lib.toList_data] at e
  cases a; cases b
  congr 1
  exact Array.toList_inj.1 e
/-- cmp.Compare -/
def cmpS (a b : ByteArray) : Int := if less a b = true then -1 else if a = b then 0 else 1
theorem cmpS_neg (a b : ByteArray) : decide (0 ≤ cmpS a b) = !less a b := by
  unfold cmpS
  cases h : less a b
  · rw [if_neg (by simp)]
    split <;> rfl
  · rfl
theorem nan_string (a : ByteArray) (w : World) : Calls Try.prog 95 #[.string a] w fun e w' => e = .returned (.bool false) ∧ w = w' := by
  have h : (a.toList != a.toList) = false := by simp
  go_enter Try.func95, Try.ntmps95
  go_wp2
  go_ret
  exact ⟨by simp, rfl⟩
theorem compare_string (a b : ByteArray) (w : World) : Calls Try.prog 93 #[.string a, .string b] w fun e w' => e = .returned (.int .i64 (cmpS a b)) ∧ w = w' := by
  unfold cmpS
  by_cases h : less a b = true
  · have h1 : Op.bytesLess a.toList b.toList = true := h
    rw [if_pos h]
    clear h
    go_enter Try.func93, Try.ntmps93
    go_wp2_with ((with_reducible refine (nan_string _ _).mono ?_); rintro e w' ⟨rfl, rfl⟩)
    go_ret
    exact ⟨rfl, rfl⟩
  · have h0 : less a b = false := by simpa using h
    have h1 : Op.bytesLess a.toList b.toList = false := h0
    rw [if_neg h]
    by_cases e : a = b
    · subst e
      have h2 : (a.toList == a.toList) = true := by simp
      rw [if_pos rfl]
      clear h h0
      go_enter Try.func93, Try.ntmps93
      go_wp2_with ((with_reducible refine (nan_string _ _).mono ?_); rintro e w' ⟨rfl, rfl⟩)
      go_ret
      exact ⟨rfl, rfl⟩
    · have h2 : (a.toList == b.toList) = false := by
        rw [beq_eq_false_iff_ne]
        intro e'
        refine e (less_total h0 ?_)
        unfold less
        rw [e']
        exact bl_irrefl _
      rw [if_neg e]
      clear h h0 e
      go_enter Try.func93, Try.ntmps93
      go_wp2_with ((with_reducible refine (nan_string _ _).mono ?_); rintro e w' ⟨rfl, rfl⟩)
      go_ret
      exact ⟨rfl, rfl⟩
theorem byName_any (x y : EN) (w : World) : Calls Try.prog 91 #[.agg #[.string x.n, .int .i64 x.i], .agg #[.string y.n, .int .i64 y.i]] w fun e w' => e = .returned (.int .i64 (cmpS x.n y.n)) ∧ Below w.heap.size w w' := by
  have h1 := (Below.refl w.heap.size w).alloc (Nat.le_refl _) (.cells #[.string x.n, .int .i64 x.i] 129)
  have HB := Lib.hid (h1.alloc h1.size (.cells #[.string y.n, .int .i64 y.i] 129))
  clear h1
  have KC := Lib.hid (compare_string x.n y.n)
  obtain ⟨C, hC⟩ : ∃ C, cmpS x.n y.n = C := ⟨_, rfl⟩
  rw [hC] at KC ⊢
  clear hC
  go_enter Try.func91, Try.ntmps91
  go_wp2_with (refine (KC.out _).mono ?_; rintro e w' ⟨rfl, rfl⟩)
  go_ret
  exact ⟨rfl, HB.out⟩
def atE (es : List EN) (j : Nat) : EN := es.getD j ⟨ByteArray.empty, 0⟩
theorem atE_get {es : List EN} {j : Nat} (h : j < es.length) : es[j]? = some (atE es j) := by
  unfold atE
  rw [List.getD_eq_getElem?_getD, List.getElem?_eq_getElem h]
  rfl
/-- the first k entries are right, and rise -/
def GoodTo (es : List EN) (k : Nat) : Prop := ∀ j, j < k → okE (atE es j) = true ∧ (0 < j → less (atE es (j - 1)).n (atE es j).n = true)
instance (es : List EN) (k : Nat) : Decidable (GoodTo es k) := inferInstanceAs (Decidable (∀ j, j < k → _))
theorem GoodTo.zero (es : List EN) : GoodTo es 0 := fun j h => absurd h (by omega)
theorem GoodTo.next {es : List EN} {k : Nat} (h : GoodTo es k) (h1 : okE (atE es k) = true) (h2 : 0 < k → less (atE es (k - 1)).n (atE es k).n = true) : GoodTo es (k + 1) := fun j hj => by
  rcases (show j < k ∨ j = k by omega) with h' | rfl
  · exact h j h'
  · exact ⟨h1, h2⟩
/-- an inode -/
structure IN where
  k : Int
  z : Int
  es : List EN
def IN.file (n : IN) : Prop := n.k = 1 ∧ 0 ≤ n.z ∧ n.z ≤ 768 ∧ n.es.length = 0
def IN.dir (n : IN) : Prop := n.k = 2 ∧ n.z = 0 ∧ n.es.length ≤ 8 ∧ GoodTo n.es n.es.length
instance (n : IN) : Decidable n.file := inferInstanceAs (Decidable (_ ∧ _))
instance (n : IN) : Decidable n.dir := inferInstanceAs (Decidable (_ ∧ _))
end Go.Proofs.Ytppodbijdhcclaa

/- Which inodes are right: what rightFile, rightDir and Check answer. No condition but that the entries are there. -/
namespace Go.Proofs.Ytppodbijdhcclaa
open Go.RowKit Go.Shelf
theorem box3 (w : World) (x y z : Value) (t : TypeId) {w' : World} (h : Below (w.alloc (.cells #[x, y, z] t)).heap.size (w.alloc (.cells #[x, y, z] t)) w') :
    w'.cell? ⟨w.heap.size, 0, none⟩ = some x ∧ w'.cell? ⟨w.heap.size, 1, none⟩ = some y ∧ w'.cell? ⟨w.heap.size, 2, none⟩ = some z := by
  refine ⟨?_, ?_, ?_⟩
  · rw [h.cell (p := ⟨w.heap.size, 0, none⟩) (by simp), World.cell?_alloc_mark]; rfl
  · rw [h.cell (p := ⟨w.heap.size, 1, none⟩) (by simp), World.cell?_alloc_mark]; rfl
  · rw [h.cell (p := ⟨w.heap.size, 2, none⟩) (by simp), World.cell?_alloc_mark]; rfl
theorem box2 (w : World) (x y : Value) (t : TypeId) {w' : World} (h : Below (w.alloc (.cells #[x, y] t)).heap.size (w.alloc (.cells #[x, y] t)) w') :
    w'.cell? ⟨w.heap.size, 0, none⟩ = some x ∧ w'.cell? ⟨w.heap.size, 1, none⟩ = some y := by
  refine ⟨?_, ?_⟩
  · rw [h.cell (p := ⟨w.heap.size, 0, none⟩) (by simp), World.cell?_alloc_mark]; rfl
  · rw [h.cell (p := ⟨w.heap.size, 1, none⟩) (by simp), World.cell?_alloc_mark]; rfl
theorem two_cells {w : World} {g : Nat} {x y : Value} (h1 : w.cell? ⟨g, 0, none⟩ = some x) (h2 : w.cell? ⟨g, 1, none⟩ = some y) : ∀ (j : Nat) u, ([x, y] : List Value)[j]? = some u → w.cell? ((⟨g, 0, none⟩ : Addr).add j) = some u := fun j u hu => by
  match j, hu with
  | 0, hu => cases hu; exact h1
  | 1, hu => cases hu; exact h2
theorem rightFile_any (n : IN) (v : Value) (w : World) (hv : Ents w w.heap.size v n.es) :
    Calls Try.prog 87 #[.agg #[.int .i64 n.k, .int .i64 n.z, v]] w fun e w' => e = .returned (.bool (decide n.file)) ∧ Below w.heap.size w w' := by
  obtain ⟨A, c, rfl, hc, hm⟩ := hv.shape
  have HB := Lib.hid ((Below.refl w.heap.size w).alloc (Nat.le_refl _) (.cells #[.int .i64 n.k, .int .i64 n.z, .slice A n.es.length c] 66))
  clear hv
  obtain ⟨k, z, es⟩ := n
  simp only at hc HB ⊢
  by_cases h1 : k = 1
  · by_cases h2 : 0 ≤ z
    · by_cases h3 : z ≤ 768
      · by_cases h4 : es.length = 0
        · rw [decide_eq_true (show IN.file ⟨k, z, es⟩ from ⟨h1, h2, h3, h4⟩)]
          rw [h4] at HB ⊢
          subst h1
          clear h4 hc
          go_enter Try.func87, Try.ntmps87
          go_wp2
          go_ret
          exact ⟨rfl, HB.out⟩
        · rw [decide_eq_false (show ¬ IN.file ⟨k, z, es⟩ from fun h => h4 h.2.2.2)]
          have i4 : ((es.length : Int) == 0) = false := beq_eq_false_iff_ne.2 (by omega)
          subst h1
          clear h4
          go_enter Try.func87, Try.ntmps87
          go_wp2
          go_ret
          exact ⟨by first | rfl | simp_all, HB.out⟩
      · rw [decide_eq_false (show ¬ IN.file ⟨k, z, es⟩ from fun h => h3 h.2.2.1)]
        subst h1
        go_enter Try.func87, Try.ntmps87
        go_wp2
        go_ret
        exact ⟨by first | rfl | simp_all, HB.out⟩
    · rw [decide_eq_false (show ¬ IN.file ⟨k, z, es⟩ from fun h => h2 h.2.1)]
      subst h1
      go_enter Try.func87, Try.ntmps87
      go_wp2
      go_ret
      exact ⟨by first | rfl | simp_all, HB.out⟩
  · rw [decide_eq_false (show ¬ IN.file ⟨k, z, es⟩ from fun h => h1 h.1)]
    have i1 : (k == 1) = false := by simpa using h1
    go_enter Try.func87, Try.ntmps87
    go_wp2
    go_ret
    exact ⟨by first | rfl | simp_all, HB.out⟩
set_option maxHeartbeats 8000000 in
set_option maxRecDepth 100000 in
theorem rightDir_any (n : IN) (v : Value) (w : World) (hv : Ents w w.heap.size v n.es) :
    Calls Try.prog 88 #[.agg #[.int .i64 n.k, .int .i64 n.z, v]] w fun e w' => e = .returned (.bool (decide n.dir)) ∧ Below w.heap.size w w' := by
  have HV := Lib.hid hv
  obtain ⟨A, c, rfl, hc, hm⟩ := hv.shape
  have HB := Lib.hid ((Below.refl w.heap.size w).alloc (Nat.le_refl _) (.cells #[.int .i64 n.k, .int .i64 n.z, .slice A n.es.length c] 66))
  have BX := Lib.hid (fun w' => box3 w (.int .i64 n.k) (.int .i64 n.z) (.slice A n.es.length c) 66 (w' := w'))
  clear hv
  obtain ⟨D, hD⟩ : ∃ D, decide n.dir = D := ⟨_, rfl⟩
  rw [hD]
  have HD := Lib.hid hD
  clear hD
  obtain ⟨k, z, es⟩ := n
  simp only at hc HB BX HV ⊢
  by_cases h1 : k = 2
  · by_cases h2 : z = 0
    · by_cases h3 : es.length ≤ 8
      · have i3 : ¬ (8 : Int) < (es.length : Int) := by omega
        subst h1
        subst h2
        obtain ⟨W, hW⟩ : ∃ W, W = w.alloc (.cells #[.int .i64 2, .int .i64 0, .slice A es.length c] 66) := ⟨_, rfl⟩
        have HBW := Lib.hid (HV.out.after HB.out)
        go_enter Try.func88, Try.ntmps88
        go_wp2_with fail
        rw [← hW] at HB BX HBW ⊢
        obtain ⟨g1, hg1⟩ : ∃ g1, w.heap.size = g1 := ⟨_, rfl⟩
        have HG1 := Lib.hid hg1
        rw [hg1] at BX ⊢
        clear hW hg1
        go_loopg [3, 4, 22] es.length (fun g _ _ i wx => ∃ q : Nat, q + g = es.length ∧ i = .int .i64 q ∧ Hid (Below W.heap.size W wx) ∧ Hid (GoodTo es q))
        case atStart => exact ⟨0, by omega, rfl, Lib.hid (Below.refl _ _), Lib.hid (GoodTo.zero es)⟩
        case round =>
          obtain ⟨q, hq, rfl, hB, hG⟩ := hrel
          cases gk with
          | zero =>
            obtain rfl : q = es.length := by omega
            obtain rfl : D = true := HD.out.symm.trans (decide_eq_true ⟨rfl, rfl, h3, hG.out⟩)
            have i4 : ¬ (es.length : Int) < (es.length : Int) := by omega
            go_wp2_with fail
            go_ret
            exact ⟨rfl, HB.out.trans (hB.out.mono HB.out.size)⟩
          | succ g =>
            have hlt : q < es.length := by omega
            have i4 : (q : Int) < (es.length : Int) := by omega
            obtain ⟨a, rfl, hab, hck⟩ := (HBW.out.below hB.out).elem (atE_get hlt)
            have HCK := Lib.hid hck
            obtain ⟨E, hE⟩ : ∃ E, atE es q = E := ⟨_, rfl⟩
            rw [hE] at HCK
            have HE := Lib.hid hE
            clear hck hE
            have HCK2 : Hid (∀ j u, ([.string E.n, .int .i64 E.i] : List Value)[j]? = some u → wr.cell? ((a.add (q * 2)).add j) = some u) := Lib.hid HCK.out
            go_wp2_with (with_reducible refine wpl_cells (q := a.add (q * 2)) (row := [.string E.n, .int .i64 E.i]) aggE sizeE (.tmp 25) rfl rfl rfl rfl HCK2.out ?_)
            have HB4 := Lib.hid (hB.out.alloc hB.out.size (.cells #[.string E.n, .int .i64 E.i] 129))
            have B4 := Lib.hid (fun w' => box2 wr (.string E.n) (.int .i64 E.i) 129 (w' := w'))
            have KE := Lib.hid (rightEntry_any E)
            obtain ⟨W4, hW4⟩ : ∃ W4, W4 = wr.alloc (.cells #[.string E.n, .int .i64 E.i] 129) := ⟨_, rfl⟩
            rw [← hW4] at HB4 B4 ⊢
            obtain ⟨g4, hg4⟩ : ∃ g4, wr.heap.size = g4 := ⟨_, rfl⟩
            rw [hg4] at B4 ⊢
            clear hW4 hg4 HCK HCK2
            have T1 := Lib.hid (Below.refl W4.heap.size W4).drew
            obtain ⟨R, hR⟩ : ∃ R, okE E = R := ⟨_, rfl⟩
            rw [hR] at KE
            have HR := Lib.hid hR
            clear hR
            cases R with
            | false =>
              obtain rfl : D = false := HD.out.symm.trans (decide_eq_false fun h => by
                have h2 := (h.2.2.2 q hlt).1
                rw [HE.out, HR.out] at h2
                cases h2)
              have S1 := B4.out _ T1.out
              clear BX HBW
              refine wp_region_held_drew (S := (fun w' => w'.cell? ⟨g4, 0, none⟩ = some (.string E.n) ∧ w'.cell? ⟨g4, 1, none⟩ = some (.int .i64 E.i))) (by kernel_rfl) S1 (fun _ => ?_)
              refine wpAnyH_take (i := 0) (v := .agg #[.string E.n, .int .i64 E.i]) rfl (by kernel_rfl) (by kernel_rfl) (by kernel_rfl) (fun _ _ _ h => h) (yields_cells (q := ⟨g4, 0, none⟩) (row := [.string E.n, .int .i64 E.i]) aggE sizeE (.tmp 4) (by kernel_rfl) (by kernel_rfl) (by kernel_rfl) rfl (fun w h => two_cells h.1 h.2)) S1 ?_
              simp only [Act.put, List.getElem_toArray, List.getElem_cons_zero, List.setIfInBounds_toArray, List.set_cons_zero, List.set_cons_succ]
              refine wpAnyH_ready (rs := [1]) (by kernel_rfl) (by simp) (AllReadyH.cons rfl (fun K hK => ?_) AllReadyH.nil)
              go_simp
              ((with_reducible refine (KE.out _).mono ?_); rintro e w2 ⟨rfl, b2⟩)
              have T2 := Lib.hid (T1.out.trans (b2.mono T1.out.size))
              have S2 := B4.out _ T2.out
              refine hK _ _ S2 (fun _ => ?_)
              clear hK K b2
              refine wpAnyH_take (i := 2) (v := .bool true) rfl (by kernel_rfl) (by kernel_rfl) (by kernel_rfl) (fun _ _ _ h => h) (Or.inl ⟨by kernel_rfl, fun w _ => by go_simp⟩) S2 ?_
              simp only [Act.put, List.getElem_toArray, List.getElem_cons_zero, List.getElem_cons_succ, List.setIfInBounds_toArray, List.set_cons_zero, List.set_cons_succ]
              refine wpAnyH_take (i := 3) (v := .bool true) rfl (by kernel_rfl) (by kernel_rfl) (by kernel_rfl) (fun _ _ _ h => h) (Or.inl ⟨by kernel_rfl, fun w _ => by go_simp⟩) S2 ?_
              simp only [Act.put, List.getElem_toArray, List.getElem_cons_zero, List.getElem_cons_succ, List.setIfInBounds_toArray, List.set_cons_zero, List.set_cons_succ]
              refine wpAnyH_take (i := 4) (v := undef) rfl (by kernel_rfl) (by kernel_rfl) (by kernel_rfl) (fun _ _ _ h => h) (Or.inr ⟨by kernel_rfl, rfl⟩) S2 ?_
              simp only [Act.put, List.getElem_toArray, List.getElem_cons_zero, List.getElem_cons_succ, List.setIfInBounds_toArray, List.set_cons_zero, List.set_cons_succ]
              refine wpAnyH_take (i := 5) (v := undef) rfl (by kernel_rfl) (by kernel_rfl) (by kernel_rfl) (fun _ _ _ h => h) (Or.inr ⟨by kernel_rfl, rfl⟩) S2 ?_
              simp only [Act.put, List.getElem_toArray, List.getElem_cons_zero, List.getElem_cons_succ, List.setIfInBounds_toArray, List.set_cons_zero, List.set_cons_succ]
              refine wpAnyH_take (i := 6) (v := undef) rfl (by kernel_rfl) (by kernel_rfl) (by kernel_rfl) (fun _ _ _ h => h) (Or.inr ⟨by kernel_rfl, rfl⟩) S2 ?_
              simp only [Act.put, List.getElem_toArray, List.getElem_cons_zero, List.getElem_cons_succ, List.setIfInBounds_toArray, List.set_cons_zero, List.set_cons_succ]
              refine wpAnyH_take (i := 7) (v := undef) rfl (by kernel_rfl) (by kernel_rfl) (by kernel_rfl) (fun _ _ _ h => h) (Or.inr ⟨by kernel_rfl, rfl⟩) S2 ?_
              simp only [Act.put, List.getElem_toArray, List.getElem_cons_zero, List.getElem_cons_succ, List.setIfInBounds_toArray, List.set_cons_zero, List.set_cons_succ]
              refine wpAnyH_take (i := 8) (v := undef) rfl (by kernel_rfl) (by kernel_rfl) (by kernel_rfl) (fun _ _ _ h => h) (Or.inr ⟨by kernel_rfl, rfl⟩) S2 ?_
              simp only [Act.put, List.getElem_toArray, List.getElem_cons_zero, List.getElem_cons_succ, List.setIfInBounds_toArray, List.set_cons_zero, List.set_cons_succ]
              refine wpAnyH_take (i := 9) (v := undef) rfl (by kernel_rfl) (by kernel_rfl) (by kernel_rfl) (fun _ _ _ h => h) (Or.inr ⟨by kernel_rfl, rfl⟩) S2 ?_
              simp only [Act.put, List.getElem_toArray, List.getElem_cons_zero, List.getElem_cons_succ, List.setIfInBounds_toArray, List.set_cons_zero, List.set_cons_succ]
              refine wpAnyH_take (i := 10) (v := undef) rfl (by kernel_rfl) (by kernel_rfl) (by kernel_rfl) (fun _ _ _ h => h) (Or.inr ⟨by kernel_rfl, rfl⟩) S2 ?_
              simp only [Act.put, List.getElem_toArray, List.getElem_cons_zero, List.getElem_cons_succ, List.setIfInBounds_toArray, List.set_cons_zero, List.set_cons_succ]
              refine wpAnyH_take (i := 11) (v := undef) rfl (by kernel_rfl) (by kernel_rfl) (by kernel_rfl) (fun _ _ _ h => h) (Or.inr ⟨by kernel_rfl, rfl⟩) S2 ?_
              simp only [Act.put, List.getElem_toArray, List.getElem_cons_zero, List.getElem_cons_succ, List.setIfInBounds_toArray, List.set_cons_zero, List.set_cons_succ]
              refine wpAnyH_take (i := 12) (v := undef) rfl (by kernel_rfl) (by kernel_rfl) (by kernel_rfl) (fun _ _ _ h => h) (Or.inr ⟨by kernel_rfl, rfl⟩) S2 ?_
              simp only [Act.put, List.getElem_toArray, List.getElem_cons_zero, List.getElem_cons_succ, List.setIfInBounds_toArray, List.set_cons_zero, List.set_cons_succ]
              refine wpAnyH_take (i := 13) (v := undef) rfl (by kernel_rfl) (by kernel_rfl) (by kernel_rfl) (fun _ _ _ h => h) (Or.inr ⟨by kernel_rfl, rfl⟩) S2 ?_
              simp only [Act.put, List.getElem_toArray, List.getElem_cons_zero, List.getElem_cons_succ, List.setIfInBounds_toArray, List.set_cons_zero, List.set_cons_succ]
              refine wpAnyH_take (i := 14) (v := undef) rfl (by kernel_rfl) (by kernel_rfl) (by kernel_rfl) (fun _ _ _ h => h) (Or.inr ⟨by kernel_rfl, rfl⟩) S2 ?_
              simp only [Act.put, List.getElem_toArray, List.getElem_cons_zero, List.getElem_cons_succ, List.setIfInBounds_toArray, List.set_cons_zero, List.set_cons_succ]
              refine wpAnyH_take (i := 15) (v := undef) rfl (by kernel_rfl) (by kernel_rfl) (by kernel_rfl) (fun _ _ _ h => h) (Or.inr ⟨by kernel_rfl, rfl⟩) S2 ?_
              simp only [Act.put, List.getElem_toArray, List.getElem_cons_zero, List.getElem_cons_succ, List.setIfInBounds_toArray, List.set_cons_zero, List.set_cons_succ]
              refine wpAnyH_take (i := 16) (v := undef) rfl (by kernel_rfl) (by kernel_rfl) (by kernel_rfl) (fun _ _ _ h => h) (Or.inr ⟨by kernel_rfl, rfl⟩) S2 ?_
              simp only [Act.put, List.getElem_toArray, List.getElem_cons_zero, List.getElem_cons_succ, List.setIfInBounds_toArray, List.set_cons_zero, List.set_cons_succ]
              refine wpAnyH_take (i := 17) (v := .bool true) rfl (by kernel_rfl) (by kernel_rfl) (by kernel_rfl) (fun _ _ _ h => h) (Or.inl ⟨by kernel_rfl, fun w _ => by go_simp⟩) S2 ?_
              simp only [Act.put, List.getElem_toArray, List.getElem_cons_zero, List.getElem_cons_succ, List.setIfInBounds_toArray, List.set_cons_zero, List.set_cons_succ]
              refine wpAnyH_done (by kernel_rfl) ?_ _
              clear S1 S2
              go_wp2_with fail
              go_ret
              exact ⟨rfl, HB.out.trans ((HB4.out.trans (T2.out.mono HB4.out.size)).mono HB.out.size)⟩
            | true =>
              by_cases hq0 : q = 0
              · have i5 : ¬ (0 : Int) < (q : Int) := by omega
                have HG2 := Lib.hid (hG.out.next (by rw [HE.out]; exact HR.out) (fun h => absurd hq0 (by omega)))
                have S1 := B4.out _ T1.out
                clear BX HBW hq0
                refine wp_region_held_drew (S := (fun w' => w'.cell? ⟨g4, 0, none⟩ = some (.string E.n) ∧ w'.cell? ⟨g4, 1, none⟩ = some (.int .i64 E.i))) (by kernel_rfl) S1 (fun _ => ?_)
                refine wpAnyH_take (i := 0) (v := .agg #[.string E.n, .int .i64 E.i]) rfl (by kernel_rfl) (by kernel_rfl) (by kernel_rfl) (fun _ _ _ h => h) (yields_cells (q := ⟨g4, 0, none⟩) (row := [.string E.n, .int .i64 E.i]) aggE sizeE (.tmp 4) (by kernel_rfl) (by kernel_rfl) (by kernel_rfl) rfl (fun w h => two_cells h.1 h.2)) S1 ?_
                simp only [Act.put, List.getElem_toArray, List.getElem_cons_zero, List.setIfInBounds_toArray, List.set_cons_zero, List.set_cons_succ]
                refine wpAnyH_ready (rs := [1]) (by kernel_rfl) (by simp) (AllReadyH.cons rfl (fun K hK => ?_) AllReadyH.nil)
                go_simp
                ((with_reducible refine (KE.out _).mono ?_); rintro e w2 ⟨rfl, b2⟩)
                have T2 := Lib.hid (T1.out.trans (b2.mono T1.out.size))
                have S2 := B4.out _ T2.out
                refine hK _ _ S2 (fun _ => ?_)
                clear hK K b2
                refine wpAnyH_take (i := 2) (v := .bool false) rfl (by kernel_rfl) (by kernel_rfl) (by kernel_rfl) (fun _ _ _ h => h) (Or.inl ⟨by kernel_rfl, fun w _ => by go_simp⟩) S2 ?_
                simp only [Act.put, List.getElem_toArray, List.getElem_cons_zero, List.getElem_cons_succ, List.setIfInBounds_toArray, List.set_cons_zero, List.set_cons_succ]
                refine wpAnyH_take (i := 3) (v := .bool false) rfl (by kernel_rfl) (by kernel_rfl) (by kernel_rfl) (fun _ _ _ h => h) (Or.inl ⟨by kernel_rfl, fun w _ => by go_simp⟩) S2 ?_
                simp only [Act.put, List.getElem_toArray, List.getElem_cons_zero, List.getElem_cons_succ, List.setIfInBounds_toArray, List.set_cons_zero, List.set_cons_succ]
                refine wpAnyH_take (i := 4) (v := .int .i64 (q : Int)) rfl (by kernel_rfl) (by kernel_rfl) (by kernel_rfl) (fun _ _ _ h => h) (Or.inl ⟨by kernel_rfl, fun w _ => by go_simp⟩) S2 ?_
                simp only [Act.put, List.getElem_toArray, List.getElem_cons_zero, List.getElem_cons_succ, List.setIfInBounds_toArray, List.set_cons_zero, List.set_cons_succ]
                refine wpAnyH_take (i := 5) (v := .bool false) rfl (by kernel_rfl) (by kernel_rfl) (by kernel_rfl) (fun _ _ _ h => h) (Or.inl ⟨by kernel_rfl, fun w _ => by go_simp; omega⟩) S2 ?_
                simp only [Act.put, List.getElem_toArray, List.getElem_cons_zero, List.getElem_cons_succ, List.setIfInBounds_toArray, List.set_cons_zero, List.set_cons_succ]
                refine wpAnyH_take (i := 6) (v := .bool false) rfl (by kernel_rfl) (by kernel_rfl) (by kernel_rfl) (fun _ _ _ h => h) (Or.inl ⟨by kernel_rfl, fun w _ => by go_simp⟩) S2 ?_
                simp only [Act.put, List.getElem_toArray, List.getElem_cons_zero, List.getElem_cons_succ, List.setIfInBounds_toArray, List.set_cons_zero, List.set_cons_succ]
                refine wpAnyH_take (i := 7) (v := undef) rfl (by kernel_rfl) (by kernel_rfl) (by kernel_rfl) (fun _ _ _ h => h) (Or.inr ⟨by kernel_rfl, rfl⟩) S2 ?_
                simp only [Act.put, List.getElem_toArray, List.getElem_cons_zero, List.getElem_cons_succ, List.setIfInBounds_toArray, List.set_cons_zero, List.set_cons_succ]
                refine wpAnyH_take (i := 8) (v := undef) rfl (by kernel_rfl) (by kernel_rfl) (by kernel_rfl) (fun _ _ _ h => h) (Or.inr ⟨by kernel_rfl, rfl⟩) S2 ?_
                simp only [Act.put, List.getElem_toArray, List.getElem_cons_zero, List.getElem_cons_succ, List.setIfInBounds_toArray, List.set_cons_zero, List.set_cons_succ]
                refine wpAnyH_take (i := 9) (v := undef) rfl (by kernel_rfl) (by kernel_rfl) (by kernel_rfl) (fun _ _ _ h => h) (Or.inr ⟨by kernel_rfl, rfl⟩) S2 ?_
                simp only [Act.put, List.getElem_toArray, List.getElem_cons_zero, List.getElem_cons_succ, List.setIfInBounds_toArray, List.set_cons_zero, List.set_cons_succ]
                refine wpAnyH_take (i := 10) (v := undef) rfl (by kernel_rfl) (by kernel_rfl) (by kernel_rfl) (fun _ _ _ h => h) (Or.inr ⟨by kernel_rfl, rfl⟩) S2 ?_
                simp only [Act.put, List.getElem_toArray, List.getElem_cons_zero, List.getElem_cons_succ, List.setIfInBounds_toArray, List.set_cons_zero, List.set_cons_succ]
                refine wpAnyH_take (i := 11) (v := undef) rfl (by kernel_rfl) (by kernel_rfl) (by kernel_rfl) (fun _ _ _ h => h) (Or.inr ⟨by kernel_rfl, rfl⟩) S2 ?_
                simp only [Act.put, List.getElem_toArray, List.getElem_cons_zero, List.getElem_cons_succ, List.setIfInBounds_toArray, List.set_cons_zero, List.set_cons_succ]
                refine wpAnyH_take (i := 12) (v := undef) rfl (by kernel_rfl) (by kernel_rfl) (by kernel_rfl) (fun _ _ _ h => h) (Or.inr ⟨by kernel_rfl, rfl⟩) S2 ?_
                simp only [Act.put, List.getElem_toArray, List.getElem_cons_zero, List.getElem_cons_succ, List.setIfInBounds_toArray, List.set_cons_zero, List.set_cons_succ]
                refine wpAnyH_take (i := 13) (v := undef) rfl (by kernel_rfl) (by kernel_rfl) (by kernel_rfl) (fun _ _ _ h => h) (Or.inr ⟨by kernel_rfl, rfl⟩) S2 ?_
                simp only [Act.put, List.getElem_toArray, List.getElem_cons_zero, List.getElem_cons_succ, List.setIfInBounds_toArray, List.set_cons_zero, List.set_cons_succ]
                refine wpAnyH_take (i := 14) (v := undef) rfl (by kernel_rfl) (by kernel_rfl) (by kernel_rfl) (fun _ _ _ h => h) (Or.inr ⟨by kernel_rfl, rfl⟩) S2 ?_
                simp only [Act.put, List.getElem_toArray, List.getElem_cons_zero, List.getElem_cons_succ, List.setIfInBounds_toArray, List.set_cons_zero, List.set_cons_succ]
                refine wpAnyH_take (i := 15) (v := undef) rfl (by kernel_rfl) (by kernel_rfl) (by kernel_rfl) (fun _ _ _ h => h) (Or.inr ⟨by kernel_rfl, rfl⟩) S2 ?_
                simp only [Act.put, List.getElem_toArray, List.getElem_cons_zero, List.getElem_cons_succ, List.setIfInBounds_toArray, List.set_cons_zero, List.set_cons_succ]
                refine wpAnyH_take (i := 16) (v := .bool false) rfl (by kernel_rfl) (by kernel_rfl) (by kernel_rfl) (fun _ _ _ h => h) (Or.inl ⟨by kernel_rfl, fun w _ => by go_simp⟩) S2 ?_
                simp only [Act.put, List.getElem_toArray, List.getElem_cons_zero, List.getElem_cons_succ, List.setIfInBounds_toArray, List.set_cons_zero, List.set_cons_succ]
                refine wpAnyH_take (i := 17) (v := .bool false) rfl (by kernel_rfl) (by kernel_rfl) (by kernel_rfl) (fun _ _ _ h => h) (Or.inl ⟨by kernel_rfl, fun w _ => by go_simp⟩) S2 ?_
                simp only [Act.put, List.getElem_toArray, List.getElem_cons_zero, List.getElem_cons_succ, List.setIfInBounds_toArray, List.set_cons_zero, List.set_cons_succ]
                refine wpAnyH_done (by kernel_rfl) ?_ _
                clear S1 S2
                go_wp2_with fail
                go_roundg g
                case measure => omega
                case rel => exact ⟨q + 1, by omega, by go_num, Lib.hid (HB4.out.trans (T2.out.mono HB4.out.size)), HG2⟩
              · obtain ⟨r, rfl⟩ : ∃ r, q = r + 1 := ⟨q - 1, by omega⟩
                have hql : r < es.length := by omega
                have j6 : (r : Int) < (es.length : Int) := by omega
                have j7 : IntKind.i64.wrap (r : Int) = (r : Int) := wrap_small (r : Int) (by omega) (by omega)
                clear hq0
                have i5 : (0 : Int) < ((r : Int) + 1) := by omega
                obtain ⟨F, hF⟩ : ∃ F, atE es r = F := ⟨_, rfl⟩
                have HF := Lib.hid hF
                have HP : Hid (∀ w', Below W.heap.size W w' → ∀ (j : Nat) u, ([.string F.n, .int .i64 F.i] : List Value)[j]? = some u → w'.cell? ((a.add (r * 2)).add j) = some u) := Lib.hid fun w' hb => by
                  obtain ⟨a', e', _, hck⟩ := (HBW.out.below hb).elem (atE_get hql)
                  cases e'
                  rw [hF] at hck
                  exact hck
                have KS : Hid (∀ w', Below W4.heap.size W4 w' → w'.cell? ⟨g4, 0, none⟩ = some (.string E.n) ∧ w'.cell? ⟨g4, 1, none⟩ = some (.int .i64 E.i) ∧ w'.cell? ⟨g1, 2, none⟩ = some (.slice (some a) es.length c) ∧ ∀ (j : Nat) u, ([.string F.n, .int .i64 F.i] : List Value)[j]? = some u → w'.cell? ((a.add (r * 2)).add j) = some u) := Lib.hid fun w' h => by
                  have hb := HB4.out.trans (h.mono HB4.out.size)
                  exact ⟨(B4.out _ h).1, (B4.out _ h).2, (BX.out _ hb).2.2, HP.out _ hb⟩
                have KN := Lib.hid (byName_any F E)
                have hcs := cmpS_neg F.n E.n
                obtain ⟨C, hC⟩ : ∃ C, cmpS F.n E.n = C := ⟨_, rfl⟩
                rw [hC] at KN hcs
                obtain ⟨L, hL⟩ : ∃ L, less F.n E.n = L := ⟨_, rfl⟩
                have HL := Lib.hid hL
                rw [hL] at hcs
                have S1 := KS.out _ T1.out
                clear hF BX HBW HP hC hL
                cases L with
                | true =>
                  have HG2 := Lib.hid (hG.out.next (by rw [HE.out]; exact HR.out) (fun h => by rw [Nat.add_sub_cancel, HF.out, HE.out]; exact HL.out))
                  have j4 : ¬ (0 : Int) ≤ C := by simpa using hcs
                  clear hcs
                  refine wp_region_held_drew (S := (fun w' => w'.cell? ⟨g4, 0, none⟩ = some (.string E.n) ∧ w'.cell? ⟨g4, 1, none⟩ = some (.int .i64 E.i) ∧ w'.cell? ⟨g1, 2, none⟩ = some (.slice (some a) es.length c) ∧ ∀ (j : Nat) u, ([.string F.n, .int .i64 F.i] : List Value)[j]? = some u → w'.cell? ((a.add (r * 2)).add j) = some u)) (by kernel_rfl) S1 (fun _ => ?_)
                  refine wpAnyH_take (i := 0) (v := .agg #[.string E.n, .int .i64 E.i]) rfl (by kernel_rfl) (by kernel_rfl) (by kernel_rfl) (fun _ _ _ h => h) (yields_cells (q := ⟨g4, 0, none⟩) (row := [.string E.n, .int .i64 E.i]) aggE sizeE (.tmp 4) (by kernel_rfl) (by kernel_rfl) (by kernel_rfl) rfl (fun w h => two_cells h.1 h.2.1)) S1 ?_
                  simp only [Act.put, List.getElem_toArray, List.getElem_cons_zero, List.setIfInBounds_toArray, List.set_cons_zero, List.set_cons_succ]
                  refine wpAnyH_ready (rs := [1]) (by kernel_rfl) (by simp) (AllReadyH.cons rfl (fun K hK => ?_) AllReadyH.nil)
                  go_simp
                  ((with_reducible refine (KE.out _).mono ?_); rintro e w2 ⟨rfl, b2⟩)
                  have T2 := Lib.hid (T1.out.trans (b2.mono T1.out.size))
                  have S2 := KS.out _ T2.out
                  refine hK _ _ S2 (fun _ => ?_)
                  clear hK K b2
                  refine wpAnyH_take (i := 2) (v := .bool false) rfl (by kernel_rfl) (by kernel_rfl) (by kernel_rfl) (fun _ _ _ h => h) (Or.inl ⟨by kernel_rfl, fun w _ => by go_simp⟩) S2 ?_
                  simp only [Act.put, List.getElem_toArray, List.getElem_cons_zero, List.getElem_cons_succ, List.setIfInBounds_toArray, List.set_cons_zero, List.set_cons_succ]
                  refine wpAnyH_take (i := 3) (v := .bool false) rfl (by kernel_rfl) (by kernel_rfl) (by kernel_rfl) (fun _ _ _ h => h) (Or.inl ⟨by kernel_rfl, fun w _ => by go_simp⟩) S2 ?_
                  simp only [Act.put, List.getElem_toArray, List.getElem_cons_zero, List.getElem_cons_succ, List.setIfInBounds_toArray, List.set_cons_zero, List.set_cons_succ]
                  refine wpAnyH_take (i := 4) (v := .int .i64 ((r + 1 : Nat) : Int)) rfl (by kernel_rfl) (by kernel_rfl) (by kernel_rfl) (fun _ _ _ h => h) (Or.inl ⟨by kernel_rfl, fun w _ => by go_simp⟩) S2 ?_
                  simp only [Act.put, List.getElem_toArray, List.getElem_cons_zero, List.getElem_cons_succ, List.setIfInBounds_toArray, List.set_cons_zero, List.set_cons_succ]
                  refine wpAnyH_take (i := 5) (v := .bool true) rfl (by kernel_rfl) (by kernel_rfl) (by kernel_rfl) (fun _ _ _ h => h) (Or.inl ⟨by kernel_rfl, fun w _ => by go_simp⟩) S2 ?_
                  simp only [Act.put, List.getElem_toArray, List.getElem_cons_zero, List.getElem_cons_succ, List.setIfInBounds_toArray, List.set_cons_zero, List.set_cons_succ]
                  refine wpAnyH_take (i := 6) (v := .bool true) rfl (by kernel_rfl) (by kernel_rfl) (by kernel_rfl) (fun _ _ _ h => h) (Or.inl ⟨by kernel_rfl, fun w _ => by go_simp⟩) S2 ?_
                  simp only [Act.put, List.getElem_toArray, List.getElem_cons_zero, List.getElem_cons_succ, List.setIfInBounds_toArray, List.set_cons_zero, List.set_cons_succ]
                  refine wpAnyH_take (i := 7) (v := .pointer (some ⟨g1, 2, none⟩)) rfl (by kernel_rfl) (by kernel_rfl) (by kernel_rfl) (fun _ _ _ h => h) (Or.inl ⟨by kernel_rfl, fun w _ => by go_simp⟩) S2 ?_
                  simp only [Act.put, List.getElem_toArray, List.getElem_cons_zero, List.getElem_cons_succ, List.setIfInBounds_toArray, List.set_cons_zero, List.set_cons_succ]
                  refine wpAnyH_take (i := 8) (v := .slice (some a) es.length c) rfl (by kernel_rfl) (by kernel_rfl) (by kernel_rfl) (fun _ _ _ h => h) (yields_one (ty := 64) (fun w => by kernel_rfl) (.tmp 34) (by kernel_rfl) (by kernel_rfl) (by kernel_rfl) (fun w h => h.2.2.1)) S2 ?_
                  simp only [Act.put, List.getElem_toArray, List.getElem_cons_zero, List.getElem_cons_succ, List.setIfInBounds_toArray, List.set_cons_zero, List.set_cons_succ]
                  refine wpAnyH_take (i := 9) (v := .int .i64 ((r + 1 : Nat) : Int)) rfl (by kernel_rfl) (by kernel_rfl) (by kernel_rfl) (fun _ _ _ h => h) (Or.inl ⟨by kernel_rfl, fun w _ => by go_simp; try go_num⟩) S2 ?_
                  simp only [Act.put, List.getElem_toArray, List.getElem_cons_zero, List.getElem_cons_succ, List.setIfInBounds_toArray, List.set_cons_zero, List.set_cons_succ]
                  refine wpAnyH_take (i := 10) (v := .int .i64 (r : Int)) rfl (by kernel_rfl) (by kernel_rfl) (by kernel_rfl) (fun _ _ _ h => h) (Or.inl ⟨by kernel_rfl, fun w _ => by go_simp; try go_num⟩) S2 ?_
                  simp only [Act.put, List.getElem_toArray, List.getElem_cons_zero, List.getElem_cons_succ, List.setIfInBounds_toArray, List.set_cons_zero, List.set_cons_succ]
                  refine wpAnyH_take (i := 11) (v := .pointer (some (a.add (r * 2)))) rfl (by kernel_rfl) (by kernel_rfl) (by kernel_rfl) (fun _ _ _ h => h) (Or.inl ⟨by kernel_rfl, fun w _ => by go_simp⟩) S2 ?_
                  simp only [Act.put, List.getElem_toArray, List.getElem_cons_zero, List.getElem_cons_succ, List.setIfInBounds_toArray, List.set_cons_zero, List.set_cons_succ]
                  refine wpAnyH_take (i := 12) (v := .agg #[.string F.n, .int .i64 F.i]) rfl (by kernel_rfl) (by kernel_rfl) (by kernel_rfl) (fun _ _ _ h => h) (yields_cells (q := a.add (r * 2)) (row := [.string F.n, .int .i64 F.i]) aggE sizeE (.tmp 38) (by kernel_rfl) (by kernel_rfl) (by kernel_rfl) rfl (fun w h => h.2.2.2)) S2 ?_
                  simp only [Act.put, List.getElem_toArray, List.getElem_cons_zero, List.getElem_cons_succ, List.setIfInBounds_toArray, List.set_cons_zero, List.set_cons_succ]
                  refine wpAnyH_take (i := 13) (v := .agg #[.string E.n, .int .i64 E.i]) rfl (by kernel_rfl) (by kernel_rfl) (by kernel_rfl) (fun _ _ _ h => h) (yields_cells (q := ⟨g4, 0, none⟩) (row := [.string E.n, .int .i64 E.i]) aggE sizeE (.tmp 4) (by kernel_rfl) (by kernel_rfl) (by kernel_rfl) rfl (fun w h => two_cells h.1 h.2.1)) S2 ?_
                  simp only [Act.put, List.getElem_toArray, List.getElem_cons_zero, List.getElem_cons_succ, List.setIfInBounds_toArray, List.set_cons_zero, List.set_cons_succ]
                  refine wpAnyH_ready (rs := [14]) (by kernel_rfl) (by simp) (AllReadyH.cons rfl (fun K hK => ?_) AllReadyH.nil)
                  go_simp
                  ((with_reducible refine (KN.out _).mono ?_); rintro e w3 ⟨rfl, b3⟩)
                  have T3 := Lib.hid (T2.out.trans (b3.mono T2.out.size))
                  have S3 := KS.out _ T3.out
                  refine hK _ _ S3 (fun _ => ?_)
                  clear hK K b3
                  refine wpAnyH_take (i := 15) (v := .bool false) rfl (by kernel_rfl) (by kernel_rfl) (by kernel_rfl) (fun _ _ _ h => h) (Or.inl ⟨by kernel_rfl, fun w _ => by go_simp⟩) S3 ?_
                  simp only [Act.put, List.getElem_toArray, List.getElem_cons_zero, List.getElem_cons_succ, List.setIfInBounds_toArray, List.set_cons_zero, List.set_cons_succ]
                  refine wpAnyH_take (i := 16) (v := .bool false) rfl (by kernel_rfl) (by kernel_rfl) (by kernel_rfl) (fun _ _ _ h => h) (Or.inl ⟨by kernel_rfl, fun w _ => by go_simp⟩) S3 ?_
                  simp only [Act.put, List.getElem_toArray, List.getElem_cons_zero, List.getElem_cons_succ, List.setIfInBounds_toArray, List.set_cons_zero, List.set_cons_succ]
                  refine wpAnyH_take (i := 17) (v := .bool false) rfl (by kernel_rfl) (by kernel_rfl) (by kernel_rfl) (fun _ _ _ h => h) (Or.inl ⟨by kernel_rfl, fun w _ => by go_simp⟩) S3 ?_
                  simp only [Act.put, List.getElem_toArray, List.getElem_cons_zero, List.getElem_cons_succ, List.setIfInBounds_toArray, List.set_cons_zero, List.set_cons_succ]
                  refine wpAnyH_done (by kernel_rfl) ?_ _
                  clear S1 S2 S3
                  go_wp2_with fail
                  go_roundg g
                  case measure => omega
                  case rel => exact ⟨r + 1 + 1, by omega, by go_num, Lib.hid (HB4.out.trans (T3.out.mono HB4.out.size)), HG2⟩
                | false =>
                  obtain rfl : D = false := HD.out.symm.trans (decide_eq_false fun h => by
                    have h2 := (h.2.2.2 (r + 1) hlt).2 (by omega)
                    rw [Nat.add_sub_cancel, HE.out, HF.out, HL.out] at h2
                    cases h2)
                  have j4 : (0 : Int) ≤ C := by simpa using hcs
                  clear hcs
                  refine wp_region_held_drew (S := (fun w' => w'.cell? ⟨g4, 0, none⟩ = some (.string E.n) ∧ w'.cell? ⟨g4, 1, none⟩ = some (.int .i64 E.i) ∧ w'.cell? ⟨g1, 2, none⟩ = some (.slice (some a) es.length c) ∧ ∀ (j : Nat) u, ([.string F.n, .int .i64 F.i] : List Value)[j]? = some u → w'.cell? ((a.add (r * 2)).add j) = some u)) (by kernel_rfl) S1 (fun _ => ?_)
                  refine wpAnyH_take (i := 0) (v := .agg #[.string E.n, .int .i64 E.i]) rfl (by kernel_rfl) (by kernel_rfl) (by kernel_rfl) (fun _ _ _ h => h) (yields_cells (q := ⟨g4, 0, none⟩) (row := [.string E.n, .int .i64 E.i]) aggE sizeE (.tmp 4) (by kernel_rfl) (by kernel_rfl) (by kernel_rfl) rfl (fun w h => two_cells h.1 h.2.1)) S1 ?_
                  simp only [Act.put, List.getElem_toArray, List.getElem_cons_zero, List.setIfInBounds_toArray, List.set_cons_zero, List.set_cons_succ]
                  refine wpAnyH_ready (rs := [1]) (by kernel_rfl) (by simp) (AllReadyH.cons rfl (fun K hK => ?_) AllReadyH.nil)
                  go_simp
                  ((with_reducible refine (KE.out _).mono ?_); rintro e w2 ⟨rfl, b2⟩)
                  have T2 := Lib.hid (T1.out.trans (b2.mono T1.out.size))
                  have S2 := KS.out _ T2.out
                  refine hK _ _ S2 (fun _ => ?_)
                  clear hK K b2
                  refine wpAnyH_take (i := 2) (v := .bool false) rfl (by kernel_rfl) (by kernel_rfl) (by kernel_rfl) (fun _ _ _ h => h) (Or.inl ⟨by kernel_rfl, fun w _ => by go_simp⟩) S2 ?_
                  simp only [Act.put, List.getElem_toArray, List.getElem_cons_zero, List.getElem_cons_succ, List.setIfInBounds_toArray, List.set_cons_zero, List.set_cons_succ]
                  refine wpAnyH_take (i := 3) (v := .bool false) rfl (by kernel_rfl) (by kernel_rfl) (by kernel_rfl) (fun _ _ _ h => h) (Or.inl ⟨by kernel_rfl, fun w _ => by go_simp⟩) S2 ?_
                  simp only [Act.put, List.getElem_toArray, List.getElem_cons_zero, List.getElem_cons_succ, List.setIfInBounds_toArray, List.set_cons_zero, List.set_cons_succ]
                  refine wpAnyH_take (i := 4) (v := .int .i64 ((r + 1 : Nat) : Int)) rfl (by kernel_rfl) (by kernel_rfl) (by kernel_rfl) (fun _ _ _ h => h) (Or.inl ⟨by kernel_rfl, fun w _ => by go_simp⟩) S2 ?_
                  simp only [Act.put, List.getElem_toArray, List.getElem_cons_zero, List.getElem_cons_succ, List.setIfInBounds_toArray, List.set_cons_zero, List.set_cons_succ]
                  refine wpAnyH_take (i := 5) (v := .bool true) rfl (by kernel_rfl) (by kernel_rfl) (by kernel_rfl) (fun _ _ _ h => h) (Or.inl ⟨by kernel_rfl, fun w _ => by go_simp⟩) S2 ?_
                  simp only [Act.put, List.getElem_toArray, List.getElem_cons_zero, List.getElem_cons_succ, List.setIfInBounds_toArray, List.set_cons_zero, List.set_cons_succ]
                  refine wpAnyH_take (i := 6) (v := .bool true) rfl (by kernel_rfl) (by kernel_rfl) (by kernel_rfl) (fun _ _ _ h => h) (Or.inl ⟨by kernel_rfl, fun w _ => by go_simp⟩) S2 ?_
                  simp only [Act.put, List.getElem_toArray, List.getElem_cons_zero, List.getElem_cons_succ, List.setIfInBounds_toArray, List.set_cons_zero, List.set_cons_succ]
                  refine wpAnyH_take (i := 7) (v := .pointer (some ⟨g1, 2, none⟩)) rfl (by kernel_rfl) (by kernel_rfl) (by kernel_rfl) (fun _ _ _ h => h) (Or.inl ⟨by kernel_rfl, fun w _ => by go_simp⟩) S2 ?_
                  simp only [Act.put, List.getElem_toArray, List.getElem_cons_zero, List.getElem_cons_succ, List.setIfInBounds_toArray, List.set_cons_zero, List.set_cons_succ]
                  refine wpAnyH_take (i := 8) (v := .slice (some a) es.length c) rfl (by kernel_rfl) (by kernel_rfl) (by kernel_rfl) (fun _ _ _ h => h) (yields_one (ty := 64) (fun w => by kernel_rfl) (.tmp 34) (by kernel_rfl) (by kernel_rfl) (by kernel_rfl) (fun w h => h.2.2.1)) S2 ?_
                  simp only [Act.put, List.getElem_toArray, List.getElem_cons_zero, List.getElem_cons_succ, List.setIfInBounds_toArray, List.set_cons_zero, List.set_cons_succ]
                  refine wpAnyH_take (i := 9) (v := .int .i64 ((r + 1 : Nat) : Int)) rfl (by kernel_rfl) (by kernel_rfl) (by kernel_rfl) (fun _ _ _ h => h) (Or.inl ⟨by kernel_rfl, fun w _ => by go_simp; try go_num⟩) S2 ?_
                  simp only [Act.put, List.getElem_toArray, List.getElem_cons_zero, List.getElem_cons_succ, List.setIfInBounds_toArray, List.set_cons_zero, List.set_cons_succ]
                  refine wpAnyH_take (i := 10) (v := .int .i64 (r : Int)) rfl (by kernel_rfl) (by kernel_rfl) (by kernel_rfl) (fun _ _ _ h => h) (Or.inl ⟨by kernel_rfl, fun w _ => by go_simp; try go_num⟩) S2 ?_
                  simp only [Act.put, List.getElem_toArray, List.getElem_cons_zero, List.getElem_cons_succ, List.setIfInBounds_toArray, List.set_cons_zero, List.set_cons_succ]
                  refine wpAnyH_take (i := 11) (v := .pointer (some (a.add (r * 2)))) rfl (by kernel_rfl) (by kernel_rfl) (by kernel_rfl) (fun _ _ _ h => h) (Or.inl ⟨by kernel_rfl, fun w _ => by go_simp⟩) S2 ?_
                  simp only [Act.put, List.getElem_toArray, List.getElem_cons_zero, List.getElem_cons_succ, List.setIfInBounds_toArray, List.set_cons_zero, List.set_cons_succ]
                  refine wpAnyH_take (i := 12) (v := .agg #[.string F.n, .int .i64 F.i]) rfl (by kernel_rfl) (by kernel_rfl) (by kernel_rfl) (fun _ _ _ h => h) (yields_cells (q := a.add (r * 2)) (row := [.string F.n, .int .i64 F.i]) aggE sizeE (.tmp 38) (by kernel_rfl) (by kernel_rfl) (by kernel_rfl) rfl (fun w h => h.2.2.2)) S2 ?_
                  simp only [Act.put, List.getElem_toArray, List.getElem_cons_zero, List.getElem_cons_succ, List.setIfInBounds_toArray, List.set_cons_zero, List.set_cons_succ]
                  refine wpAnyH_take (i := 13) (v := .agg #[.string E.n, .int .i64 E.i]) rfl (by kernel_rfl) (by kernel_rfl) (by kernel_rfl) (fun _ _ _ h => h) (yields_cells (q := ⟨g4, 0, none⟩) (row := [.string E.n, .int .i64 E.i]) aggE sizeE (.tmp 4) (by kernel_rfl) (by kernel_rfl) (by kernel_rfl) rfl (fun w h => two_cells h.1 h.2.1)) S2 ?_
                  simp only [Act.put, List.getElem_toArray, List.getElem_cons_zero, List.getElem_cons_succ, List.setIfInBounds_toArray, List.set_cons_zero, List.set_cons_succ]
                  refine wpAnyH_ready (rs := [14]) (by kernel_rfl) (by simp) (AllReadyH.cons rfl (fun K hK => ?_) AllReadyH.nil)
                  go_simp
                  ((with_reducible refine (KN.out _).mono ?_); rintro e w3 ⟨rfl, b3⟩)
                  have T3 := Lib.hid (T2.out.trans (b3.mono T2.out.size))
                  have S3 := KS.out _ T3.out
                  refine hK _ _ S3 (fun _ => ?_)
                  clear hK K b3
                  refine wpAnyH_take (i := 15) (v := .bool true) rfl (by kernel_rfl) (by kernel_rfl) (by kernel_rfl) (fun _ _ _ h => h) (Or.inl ⟨by kernel_rfl, fun w _ => by go_simp⟩) S3 ?_
                  simp only [Act.put, List.getElem_toArray, List.getElem_cons_zero, List.getElem_cons_succ, List.setIfInBounds_toArray, List.set_cons_zero, List.set_cons_succ]
                  refine wpAnyH_take (i := 16) (v := .bool true) rfl (by kernel_rfl) (by kernel_rfl) (by kernel_rfl) (fun _ _ _ h => h) (Or.inl ⟨by kernel_rfl, fun w _ => by go_simp⟩) S3 ?_
                  simp only [Act.put, List.getElem_toArray, List.getElem_cons_zero, List.getElem_cons_succ, List.setIfInBounds_toArray, List.set_cons_zero, List.set_cons_succ]
                  refine wpAnyH_take (i := 17) (v := .bool true) rfl (by kernel_rfl) (by kernel_rfl) (by kernel_rfl) (fun _ _ _ h => h) (Or.inl ⟨by kernel_rfl, fun w _ => by go_simp⟩) S3 ?_
                  simp only [Act.put, List.getElem_toArray, List.getElem_cons_zero, List.getElem_cons_succ, List.setIfInBounds_toArray, List.set_cons_zero, List.set_cons_succ]
                  refine wpAnyH_done (by kernel_rfl) ?_ _
                  clear S1 S2 S3
                  go_wp2_with fail
                  go_ret
                  exact ⟨rfl, HB.out.trans ((HB4.out.trans (T3.out.mono HB4.out.size)).mono HB.out.size)⟩
      · obtain rfl : D = false := HD.out.symm.trans (decide_eq_false fun h => h3 h.2.2.1)
        have i3 : (8 : Int) < (es.length : Int) := by omega
        subst h1
        subst h2
        clear h3
        go_enter Try.func88, Try.ntmps88
        go_wp2_with fail
        go_ret
        exact ⟨rfl, HB.out⟩
    · obtain rfl : D = false := HD.out.symm.trans (decide_eq_false fun h => h2 h.2.1)
      have i2 : (z != 0) = true := by simpa using h2
      subst h1
      clear h2
      go_enter Try.func88, Try.ntmps88
      go_wp2_with fail
      go_ret
      exact ⟨rfl, HB.out⟩
  · obtain rfl : D = false := HD.out.symm.trans (decide_eq_false fun h => h1 h.1)
    have i2 : (k != 2) = true := by simpa using h1
    clear h1
    go_enter Try.func88, Try.ntmps88
    go_wp2_with fail
    go_ret
    exact ⟨rfl, HB.out⟩
end Go.Proofs.Ytppodbijdhcclaa

/- What Check of inode answers; what Key and Chunks answer. No condition but that the entries are there. -/
namespace Go.Proofs.Ytppodbijdhcclaa
open Go.RowKit Go.Shelf
theorem aggI : ∀ w, (isAgg 66).run Try.prog w = .ok true w := fun _ => by kernel_rfl
theorem sizeI : ∀ w, (sizeOf 66).run Try.prog w = .ok 3 w := fun _ => by kernel_rfl
/-- is it right? -/
def IN.ok (n : IN) : Prop := n.file ∨ n.dir
instance (n : IN) : Decidable n.ok := inferInstanceAs (Decidable (_ ∨ _))
def inA (n : IN) (v : Value) : Value := .agg #[.int .i64 n.k, .int .i64 n.z, v]
set_option maxRecDepth 100000 in
theorem check_any (n : IN) (v : Value) (w : World) (hv : Ents w w.heap.size v n.es) :
    Calls Try.prog 79 #[.agg #[.int .i64 n.k, .int .i64 n.z, v]] w fun e w' => e = .returned (.int .i64 (if n.ok then 0 else 1)) ∧ Below w.heap.size w w' := by
  obtain ⟨A, c, rfl, hc, hm⟩ := hv.shape
  have HB := Lib.hid ((Below.refl w.heap.size w).alloc (Nat.le_refl _) (.cells #[.int .i64 n.k, .int .i64 n.z, .slice A n.es.length c] 66))
  have HV := Lib.hid (hv.after HB.out)
  have B1 : Blk (w.alloc (.cells #[.int .i64 n.k, .int .i64 n.z, .slice A n.es.length c] 66)) w.heap.size 66 [.int .i64 n.k, .int .i64 n.z, .slice A n.es.length c] := heap_alloc_new w _
  have HB1 := Lib.hid B1
  have KF := Lib.hid (rightFile_any n _ _ HV.out)
  obtain ⟨F, hF⟩ : ∃ F, decide n.file = F := ⟨_, rfl⟩
  rw [hF] at KF
  obtain ⟨R, hR⟩ : ∃ R : Int, (if n.ok then 0 else 1) = R := ⟨_, rfl⟩
  rw [hR]
  obtain ⟨W, hW⟩ : ∃ W, W = w.alloc (.cells #[.int .i64 n.k, .int .i64 n.z, .slice A n.es.length c] 66) := ⟨_, rfl⟩
  go_enter Try.func79, Try.ntmps79
  rw [← hW] at HB HV HB1 KF
  clear hv B1
  have HR := Lib.hid hR
  have HF := Lib.hid hF
  clear hR hF
  go_wp2_with fail
  rw [← hW]
  clear hW
  refine KF.out.mono ?_
  rintro e w1 ⟨rfl, h1⟩
  have HB2 := Lib.hid (HB1.out.after h1)
  have HW2 := Lib.hid (HB.out.trans (h1.mono HB.out.size))
  have KD := Lib.hid (rightDir_any n _ _ (HV.out.after h1))
  obtain ⟨D, hD⟩ : ∃ D, decide n.dir = D := ⟨_, rfl⟩
  rw [hD] at KD
  have HD := Lib.hid hD
  clear hD h1 KF HB1 HV
  cases F with
  | true =>
    obtain rfl : R = 0 := by
      rw [← HR.out]
      exact if_pos (.inl (of_decide_eq_true HF.out))
    go_wp2_with fail
    go_ret
    exact ⟨rfl, HW2.out⟩
  | false =>
    go_wp2_with (with_reducible refine wpl_seg_load aggI sizeI (.tmp 1) rfl rfl HB2.out 0 [.int .i64 n.k, .int .i64 n.z, .slice A n.es.length c] rfl rfl rfl ?_)
    refine KD.out.mono ?_
    rintro e w2 ⟨rfl, h2⟩
    cases D with
    | true =>
      obtain rfl : R = 0 := by
        rw [← HR.out]
        exact if_pos (.inr (of_decide_eq_true HD.out))
      go_wp2_with fail
      go_ret
      exact ⟨rfl, HW2.out.trans (h2.mono HW2.out.size)⟩
    | false =>
      obtain rfl : R = 1 := by
        rw [← HR.out]
        exact if_neg (fun h => h.elim (fun h => of_decide_eq_false HF.out h) (fun h => of_decide_eq_false HD.out h))
      go_wp2_with fail
      go_ret
      exact ⟨rfl, HW2.out.trans (h2.mono HW2.out.size)⟩
def keyOf (i c : Int) : Int := if 1 ≤ i ∧ i ≤ 24 ∧ 0 ≤ c ∧ c ≤ 6 then 8 * i + c else -1
theorem key_any (i c : Int) (w : World) : Calls Try.prog 61 #[.int .i64 i, .int .i64 c] w fun e w' => e = .returned (.int .i64 (keyOf i c)) ∧ w = w' := by
  have KI := Lib.hid (isInode_any i w)
  obtain ⟨I, hI⟩ : ∃ I, (decide (1 ≤ i) && decide (i ≤ 24)) = I := ⟨_, rfl⟩
  rw [hI] at KI
  cases I with
  | false =>
    have hk : keyOf i c = -1 := if_neg fun h => by
      rw [decide_eq_true h.1, decide_eq_true h.2.1] at hI
      cases hI
    rw [hk]
    clear hI hk
    go_enter Try.func61, Try.ntmps61
    go_wp2_with (refine KI.out.mono ?_; rintro e w' ⟨rfl, rfl⟩)
    go_ret
    exact ⟨rfl, rfl⟩
  | true =>
    simp only [Bool.and_eq_true, decide_eq_true_eq] at hI
    obtain ⟨i1, i2⟩ := hI
    by_cases c0 : c < 0
    · have hk : keyOf i c = -1 := if_neg fun h => by omega
      rw [hk]
      clear hk
      go_enter Try.func61, Try.ntmps61
      go_wp2_with (refine KI.out.mono ?_; rintro e w' ⟨rfl, rfl⟩)
      go_ret
      exact ⟨rfl, rfl⟩
    · by_cases c6 : 6 < c
      · have hk : keyOf i c = -1 := if_neg fun h => by omega
        rw [hk]
        clear hk
        go_enter Try.func61, Try.ntmps61
        go_wp2_with (refine KI.out.mono ?_; rintro e w' ⟨rfl, rfl⟩)
        go_ret
        exact ⟨rfl, rfl⟩
      · have hk : keyOf i c = 8 * i + c := if_pos ⟨i1, i2, by omega, by omega⟩
        rw [hk]
        clear hk
        go_enter Try.func61, Try.ntmps61
        go_wp2_with (refine KI.out.mono ?_; rintro e w' ⟨rfl, rfl⟩)
        go_ret
        exact ⟨by go_num, rfl⟩
def chunksOf (z : Int) : Int := if z ≤ 0 then 0 else (z - 1) / 128 + 1
theorem chunks_any (z : Int) (hz : z ≤ 9223372036854775807) (w : World) : Calls Try.prog 56 #[.int .i64 z] w fun e w' => e = .returned (.int .i64 (chunksOf z)) ∧ w = w' := by
  unfold chunksOf
  by_cases h : z ≤ 0
  · rw [if_pos h]
    go_enter Try.func56, Try.ntmps56
    go_wp2
    go_ret
    exact ⟨rfl, rfl⟩
  · rw [if_neg h]
    go_enter Try.func56, Try.ntmps56
    go_wp2
    go_ret
    exact ⟨by go_num, rfl⟩
end Go.Proofs.Ytppodbijdhcclaa

