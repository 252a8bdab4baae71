/- Entries of directories, plainly and in memory; which entry is right; how names stand. No condition. -/
import Derived.Test.YtkpojlnfagonbaaQNameRight
import Derived.Test.YtkpojlnfagonbaaQCore
namespace Go.Proofs.Ytkpojlnfagonbaa
open Go.RowKit Go.Shelf
/-- an entry -/
structure EN where
  n : ByteArray
  i : Int
def erow (e : EN) : List Value := [.string e.n, .int .i64 e.i]
def erows (es : List EN) : List Value := es.flatMap erow
theorem erows_length (es : List EN) : (erows es).length = es.length * 2 := by
  induction es with
  | nil => rfl
  | cons e es ih =>
    simp only [erows, List.flatMap_cons, List.length_append, List.length_cons] at ih ⊢
    rw [ih]
    show 2 + _ = _
    omega
theorem erows_append (a b : List EN) : erows (a ++ b) = erows a ++ erows b := by simp [erows]
theorem erows_get : ∀ (es : List EN) (i j : Nat) (e : EN) (u : Value), es[i]? = some e → (erow e)[j]? = some u → (erows es)[i * 2 + j]? = some u
  | x :: es, 0, j, e, u, h, hu => by
    obtain rfl : x = e := by simpa using h
    have hj := get_lt hu
    show (erow x ++ erows es)[0 * 2 + j]? = some u
    rw [Nat.zero_mul, Nat.zero_add, List.getElem?_append_left hj]
    exact hu
  | x :: es, i + 1, j, e, u, h, hu => by
    have ih := erows_get es i j e u (by simpa using h) hu
    show (erow x ++ erows es)[(i + 1) * 2 + j]? = some u
    rw [List.getElem?_append_right (by show 2 ≤ _; omega), show (i + 1) * 2 + j - (erow x).length = i * 2 + j by show _ - 2 = _; omega]
    exact ih
theorem erow_one {es : List EN} : ∀ u ∈ erows es, u.oneCell' = true := fun u hu => by
  obtain ⟨e, _, he⟩ := List.mem_flatMap.1 hu
  simp only [erow, List.mem_cons, List.mem_nil_iff, or_false] at he
  rcases he with rfl | rfl <;> rfl
/-- v is a slice of the entries es -/
def Ents (w : World) (B : Nat) (v : Value) (es : List EN) : Prop :=
  ∃ A c, v = .slice A es.length c ∧ es.length ≤ c ∧ c ≤ maxLen ∧ Row w B A (erows es)
section
variable {w w' : World} {B B' : Nat} {v : Value} {es : List EN}
theorem Ents.keep (h : Ents w B v es) (hk : ∀ p : Addr, p.block < B → w'.cell? p = w.cell? p) : Ents w' B v es := by
  obtain ⟨A, c, e, h1, h2, h3⟩ := h
  exact ⟨A, c, e, h1, h2, h3.keep hk⟩
theorem Ents.more (h : Ents w B v es) (hB : B ≤ B') : Ents w B' v es := by
  obtain ⟨A, c, e, h1, h2, h3⟩ := h
  exact ⟨A, c, e, h1, h2, h3.more hB⟩
theorem Ents.below (h : Ents w B v es) (hb : Below B w w') : Ents w' B v es := h.keep fun _ hp => hb.cell hp
theorem Ents.after (h : Ents w w.heap.size v es) (hb : Below w.heap.size w w') : Ents w' w'.heap.size v es := (h.below hb).more hb.size
theorem Ents.nil (c : Nat) (hc : c ≤ maxLen) : Ents w B (.slice none 0 c) [] := ⟨none, c, rfl, Nat.zero_le _, hc, Row.nil⟩
theorem Ents.shape (h : Ents w B v es) : ∃ A c, v = .slice A es.length c ∧ es.length ≤ c ∧ c ≤ 9223372036854775807 := by
  obtain ⟨A, c, e, h1, h2, _⟩ := h
  exact ⟨A, c, e, h1, h2⟩
theorem Ents.elem {A : Option Addr} {n c : Nat} (h : Ents w B (.slice A n c) es) {k : Nat} {e : EN} (hk : es[k]? = some e) :
    ∃ a, A = some a ∧ a.block < B ∧ ∀ j u, (erow e)[j]? = some u → w.cell? ((a.add (k * 2)).add j) = some u := by
  obtain ⟨_, _, e1, _, _, hr⟩ := h
  cases e1
  obtain ⟨a, rfl, hb, _⟩ := hr (k * 2 + 0) _ (erows_get es k 0 e _ hk rfl)
  refine ⟨a, rfl, hb, fun j u hu => ?_⟩
  obtain ⟨a', e', _, hc⟩ := hr (k * 2 + j) _ (erows_get es k j e _ hk hu)
  cases e'
  rw [add_twice]
  exact hc
end
/-- a slice of entries of the call's own -/
def OwnE (w : World) (base : Nat) (v : Value) (es : List EN) : Prop := w.ownsRow base 32 2 v es.length (erows es)
theorem OwnE.shape {w : World} {base : Nat} {v : Value} {es : List EN} (h : OwnE w base v es) : ∃ A c, v = .slice A es.length c ∧ es.length ≤ c ∧ c ≤ 9223372036854775807 := by
  rcases h.2 with ⟨rfl, h0⟩ | ⟨g, cap, cur, rfl, _, _, hn, hcap, _⟩
  · exact ⟨none, 0, by rw [h0], by omega, by omega⟩
  · exact ⟨_, cap, rfl, hn, hcap⟩
theorem OwnE.ents {w : World} {base : Nat} {v : Value} {es : List EN} (h : OwnE w base v es) : Ents w w.heap.size v es := by
  obtain ⟨A, c, rfl, h1, h2⟩ := h.shape
  refine ⟨A, c, rfl, h1, h2, fun j u hu => ?_⟩
  have hlt := h.lt
  have hc : ∀ {g : Nat}, (Value.slice A es.length c).ownBlock = some g → ∀ j u, (erows es)[j]? = some u → w.cell? ((⟨g, 0, none⟩ : Addr).add j) = some u := fun hg => World.ownsRow.cells h hg
  rcases h.2 with ⟨hv, h0⟩ | ⟨g, cap, cur, hv, _, _, _, _⟩
  · have hx := h.1
    rw [h0] at hx
    have := get_lt hu
    omega
  · cases hv
    exact ⟨_, rfl, (hlt g rfl).2, hc rfl j u hu⟩
theorem OwnE.made (w : World) (base : Nat) (hb : base ≤ w.heap.size) (g : Nat) (hg : g = w.heap.size) : OwnE (w.alloc (.cells #[] 32)) base (.slice (some ⟨g, 0, none⟩) 0 0) [] := by
  subst hg
  exact World.ownsRow_made (size := 2) w #[] 0 hb (by simp [maxLen]) (by simp)
theorem OwnE.nil (w : World) (base : Nat) : OwnE w base (.slice none 0 0) [] := World.ownsRow_nil w base _ 2
theorem OwnE.kept {w w' : World} {base : Nat} {v : Value} {es : List EN} (h : OwnE w base v es) (hb : Below w.heap.size w w') : OwnE w' base v es :=
  World.ownsRow.kept (row := none) h (only_of_below hb none) (by cases v.ownBlock <;> simp)
theorem OwnE.lower {w : World} {base base' : Nat} {v : Value} {es : List EN} (h : OwnE w base v es) (hb : base' ≤ base) : OwnE w base' v es := by
  obtain ⟨x1, x2⟩ := h
  refine ⟨x1, ?_⟩
  rcases x2 with x2 | ⟨y1, y2, y3, y4, y5, y6⟩
  · exact .inl x2
  · exact .inr ⟨y1, y2, y3, y4, Nat.le_trans hb y5, y6⟩
theorem aggE : ∀ w, (isAgg 32).run Try.prog w = .ok true w := fun _ => by kernel_rfl
theorem sizeE : ∀ w, (sizeOf 32).run Try.prog w = .ok 2 w := fun _ => by kernel_rfl
theorem infoE : (Try.prog.info? 32).map (fun i => (i.zero, i.size, i.bytes)) = some (some (.agg #[.string ByteArray.empty, .int .i64 0]), 2, 24) := by kernel_rfl
/-- may a directory have it? -/
def okE (e : EN) : Bool := rightL e.n.data.toList && (decide (1 ≤ e.i) && decide (e.i ≤ 24))
theorem isInode_any (i : Int) (w : World) : Calls Try.prog 58 #[.int .i64 i] w fun e w' => e = .returned (.bool (decide (1 ≤ i) && decide (i ≤ 24))) ∧ w = w' := by
  by_cases h1 : 1 ≤ i
  · by_cases h2 : i ≤ 24
    · rw [decide_eq_true h1, decide_eq_true h2]
      go_enter Try.func58, Try.ntmps58
      go_wp2
      go_ret
      exact ⟨rfl, rfl⟩
    · rw [decide_eq_true h1, decide_eq_false h2]
      go_enter Try.func58, Try.ntmps58
      go_wp2
      go_ret
      exact ⟨rfl, rfl⟩
  · rw [decide_eq_false h1, Bool.false_and]
    go_enter Try.func58, Try.ntmps58
    go_wp2
    go_ret
    exact ⟨rfl, rfl⟩
set_option maxRecDepth 100000 in
theorem rightEntry_any (e : EN) (w : World) : Calls Try.prog 36 #[.agg #[.string e.n, .int .i64 e.i]] w fun x w' => x = .returned (.bool (okE e)) ∧ Below w.heap.size w w' := by
  have hb := (Below.refl w.heap.size w).alloc (Nat.le_refl _) (.cells #[.string e.n, .int .i64 e.i] 32)
  have HB := Lib.hid hb
  have KR := Lib.hid (right_any e.n (w.alloc (.cells #[.string e.n, .int .i64 e.i] 32)))
  unfold okE
  obtain ⟨R, hR⟩ : ∃ R, rightL e.n.data.toList = R := ⟨_, rfl⟩
  rw [hR] at KR ⊢
  have KI := Lib.hid (isInode_any e.i)
  obtain ⟨I, hI⟩ : ∃ I, (decide (1 ≤ e.i) && decide (e.i ≤ 24)) = I := ⟨_, rfl⟩
  rw [hI] at KI ⊢
  obtain ⟨n, i⟩ := e
  clear hb hR hI
  cases R with
  | false =>
    go_enter Try.func36, Try.ntmps36
    go_wp2_with fail
    refine KR.out.mono ?_
    rintro x w1 ⟨rfl, h1⟩
    go_wp2_with fail
    go_ret
    exact ⟨rfl, HB.out.trans (h1.mono HB.out.size)⟩
  | true =>
    have c1 : Hid (∀ w1, Below (w.alloc (.cells #[.string n, .int .i64 i] 32)).heap.size (w.alloc (.cells #[.string n, .int .i64 i] 32)) w1 → w1.cell? ⟨w.heap.size, 1, none⟩ = some (.int .i64 i)) := Lib.hid fun w1 h => by
      rw [h.cell (p := ⟨w.heap.size, 1, none⟩) (by simp), World.cell?_alloc_mark]
      rfl
    go_enter Try.func36, Try.ntmps36
    go_wp2_with fail
    refine KR.out.mono ?_
    rintro x w1 ⟨rfl, h1⟩
    have c2 := c1.out w1 h1
    have HB1 := Lib.hid (HB.out.trans (h1.mono HB.out.size))
    clear h1
    go_wp2_with fail
    refine (KI.out _).mono ?_
    rintro x w2 ⟨rfl, rfl⟩
    go_wp2_with fail
    go_ret
    exact ⟨rfl, HB1.out⟩
set_option maxRecDepth 100000 in
theorem fits_any (e : EN) (w : World) : Calls Try.prog 40 #[.agg #[.string e.n, .int .i64 e.i]] w fun x w' => x = .returned (.bool (okE e)) ∧ Below w.heap.size w w' := by
  have hb := (Below.refl w.heap.size w).alloc (Nat.le_refl _) (.cells #[.string e.n, .int .i64 e.i] 32)
  have HB := Lib.hid hb
  have KR := Lib.hid (refRight_any e.n)
  unfold okE
  obtain ⟨R, hR⟩ : ∃ R, rightL e.n.data.toList = R := ⟨_, rfl⟩
  rw [hR] at KR ⊢
  obtain ⟨n, i⟩ := e
  clear hb hR
  cases R with
  | false =>
    go_enter Try.func40, Try.ntmps40
    go_wp2_with fail
    refine (KR.out _).mono ?_
    rintro x w1 ⟨rfl, rfl⟩
    go_wp2_with fail
    go_ret
    exact ⟨rfl, HB.out⟩
  | true =>
    simp only [Bool.true_and]
    by_cases h1 : 1 ≤ i
    · by_cases h2 : i ≤ 24
      · rw [decide_eq_true h1, decide_eq_true h2]
        go_enter Try.func40, Try.ntmps40
        go_wp2_with fail
        refine (KR.out _).mono ?_
        rintro x w1 ⟨rfl, rfl⟩
        go_wp2_with fail
        go_ret
        exact ⟨by first | rfl | (simp; omega), HB.out⟩
      · rw [decide_eq_true h1, decide_eq_false h2]
        go_enter Try.func40, Try.ntmps40
        go_wp2_with fail
        refine (KR.out _).mono ?_
        rintro x w1 ⟨rfl, rfl⟩
        go_wp2_with fail
        go_ret
        exact ⟨by first | rfl | (simp; omega), HB.out⟩
    · rw [decide_eq_false h1, Bool.false_and]
      go_enter Try.func40, Try.ntmps40
      go_wp2_with fail
      refine (KR.out _).mono ?_
      rintro x w1 ⟨rfl, rfl⟩
      go_wp2_with fail
      go_ret
      exact ⟨rfl, HB.out⟩
end Go.Proofs.Ytkpojlnfagonbaa

