/- A map from ints to bools that the call makes: what a look-up, a store and a step of a range loop leave; and how many of its elements are true, by two. No condition. -/
import Derived.Test.YtoknobcicpokoaaHamFixes
import Derived.Maps.OwnOps
import Derived.Maps.RangeWalk
import Derived.Maps.Views
namespace Go.Proofs.Ytoknobcicpokoaa
open Go.RowKit Go.Maps

/-- is the number of the i < n at which f is true odd? -/
def parB (f : Nat → Bool) : Nat → Bool
  | 0 => false
  | n + 1 => (parB f n != f n)
theorem parB_congr {f f' : Nat → Bool} : ∀ n, (∀ i, i < n → f i = f' i) → parB f n = parB f' n
  | 0, _ => rfl
  | n + 1, h => by
    show (parB f n != f n) = (parB f' n != f' n)
    rw [parB_congr n (fun i hi => h i (by omega)), h n (by omega)]
theorem parB_false : ∀ n, parB (fun _ => false) n = false
  | 0 => rfl
  | n + 1 => by
    show (parB (fun _ => false) n != false) = false
    rw [parB_false n]
    rfl
/-- one place turned -/
theorem parB_flip {f f' : Nat → Bool} {j : Nat} (hj : f' j = !f j) (ho : ∀ i, i ≠ j → f' i = f i) : ∀ n, parB f' n = (parB f n != decide (j < n))
  | 0 => by simp [parB]
  | n + 1 => by
    show (parB f' n != f' n) = ((parB f n != f n) != decide (j < n + 1))
    rw [parB_flip hj ho n]
    by_cases e : n = j
    · subst e
      rw [hj, decide_eq_false (Nat.lt_irrefl n), decide_eq_true (Nat.lt_succ_self n)]
      cases parB f n <;> cases f n <;> rfl
    · rw [ho n e]
      by_cases h : j < n
      · rw [decide_eq_true h, decide_eq_true (by omega : j < n + 1)]
        cases parB f n <;> cases f n <;> rfl
      · rw [decide_eq_false h, decide_eq_false (by omega : ¬ j < n + 1)]
        cases parB f n <;> cases f n <;> rfl
/-- one place laid -/
theorem parB_lay {f f' : Nat → Bool} {j n : Nat} {c : Bool} (hjn : j < n) (h0 : f j = false) (hj : f' j = c) (ho : ∀ i, i ≠ j → f' i = f i) : parB f' n = (parB f n != c) := by
  cases c with
  | true =>
    rw [parB_flip (by rw [hj, h0]; rfl) ho n, decide_eq_true hjn]
  | false =>
    rw [parB_congr n (f := f') (f' := f) (fun i _ => by
      by_cases e : i = j
      · subst e; rw [hj, h0]
      · exact ho i e)]
    cases parB f n <;> rfl

/-- the key i -/
def ky (i : Nat) : Lit := .int .i64 (i : Int)
theorem ky_wf {i : Nat} (h : i < 2061) : (Lit.int .i64 (i : Int)).wf = true := by
  simp only [Lit.wf, Bool.and_eq_true, IntKind.min, IntKind.max, IntKind.signed, IntKind.bits]
  simp
  omega
theorem ky_inj {i j : Nat} (h : ky i = ky j) : i = j := by
  unfold ky at h
  simp at h
  omega
theorem ky_key (i : Nat) : WideAt.IsKeyLit (ky i) := by
  unfold ky
  trivial
/-- the map D reads as f at the keys below 2061, and has no other -/
def Tog {H : Type} (D : DataW H) (f : Nat → Bool) : Prop := (∀ i, i < 2061 → D.atKey (ky i) (.lit (.bool false)) = .lit (.bool (f i))) ∧ (∀ kl, Maps.has D kl = true → ∃ i, i < 2061 ∧ kl = ky i)
theorem tog_none {H : Type} : Tog (H := H) (.map []) (fun _ => false) := ⟨fun _ _ => rfl, fun _ h => by cases h⟩
theorem tog_put {H : Type} {D : DataW H} {f : Nat → Bool} (h : Tog D f) (hm : IsMap D) {j : Nat} (hj : j < 2061) (c : Bool) : Tog (D.put (ky j) (.lit (.bool c))) (fun i => if i = j then c else f i) := by
  refine ⟨fun i hi => ?_, fun kl hkl => ?_⟩
  · by_cases e : i = j
    · subst e
      rw [atKey_put_same hm (ky_key i)]
      simp
    · rw [atKey_put_other (fun k => e (ky_inj k)), h.1 i hi]
      simp [e]
  · by_cases e : kl = ky j
    · exact ⟨j, hj, e⟩
    · rw [has_put_other e] at hkl
      exact h.2 kl hkl
theorem tog_start {H : Type} {D : DataW H} {f : Nat → Bool} (h : Tog D f) : parB (fun i => f i && !Maps.has D (ky i)) 2061 = false := by
  rw [parB_congr (f' := fun _ => false) 2061 (fun i hi => ?_), parB_false]
  cases hh : Maps.has D (ky i) with
  | true => simp
  | false =>
    have e := h.1 i hi
    rw [atKey_of_not_has hh] at e
    simp at e
    simp [← e]
theorem tog_step {H : Type} {D : DataW H} {f : Nat → Bool} (h : Tog D f) {left : Lit → Bool} {kl : Lit} {c : Bool} (hl : left kl = true) (hat : ∀ zd, D.atKey kl zd = .lit (.bool c)) :
    parB (fun i => f i && !(left (ky i) && !(ky i).sameKey kl)) 2061 = (parB (fun i => f i && !left (ky i)) 2061 != c) := by
  obtain ⟨j, hj, rfl⟩ := h.2 kl (has_true_of_atKey hat)
  have e := h.1 j hj
  rw [hat] at e
  simp at e
  refine parB_lay hj (by rw [hl]; simp) ?_ (fun i hi => ?_)
  · rw [WideAt.sameKey_self (ky_key j)]
    simp [e]
  · rw [sameKey_ne (fun k => hi (ky_inj k))]
    simp
theorem tog_end (f : Nat → Bool) {left : Lit → Bool} (hl : ∀ kl, left kl = false) : parB (fun i => f i && !left (ky i)) 2061 = parB f 2061 :=
  parB_congr 2061 (fun i _ => by rw [hl]; simp)
section
variable {H : Type} {P : Program} {k e t : TypeId} {w : World} {b n : Nat} {D : DataW H} {ops : Array Oper} {rest : List Oper} {o : Oper} {a : Act} {Q : Exit → Act → World → Prop}
theorem plainElem_bool_inv (he : P.underlying e = some .bool) {v : Value} {z : DataW H × List MemPlace} (h : plainElem P e v = some z) : ∃ c, v = .bool c ∧ z = (.lit (.bool c), []) := by
  unfold plainElem at h
  rw [he] at h
  cases v <;> simp at h
  exact ⟨_, rfl, h.symm⟩
/-- a look-up without 'ok', at bools -/
theorem wpl_lookup_bool (hg : o.guard = none) (m x : Operand) (t : TypeId) (hop : o.op = Op.lookup t m x false)
    (K : Keyed P k) (ht : P.underlying t = some (.map k e)) (he : P.underlying e = some .bool) (hz : (zeroValue e).run P w = .ok (.bool false) w)
    (hm : a.eval m = .map (some b)) (hown : w.ownsMap P k (plainElem P e) b n D) (key : Value) (kl : Lit) (hx : a.eval x = key) (hkey : keyOf P k key = some kl)
    (c : Bool) (hc : D.atKey kl (.lit (.bool false)) = .lit (.bool c)) (hK : wpList P ops Q rest (a.put o.dst (.bool c)) w) :
    wpList P ops Q (o :: rest) a w := by
  refine wpList_plain hg fun K' hK' => ?_
  obtain ⟨v, ps, hrun, hv⟩ := hown.lookup K ht hz (plainElem_bool he false) hkey
  obtain ⟨c', rfl, hc'⟩ := plainElem_bool_inv he hv
  rw [hc] at hc'
  simp at hc'
  obtain ⟨rfl, _⟩ := hc'
  unfold Oper.wp
  simp [execOp, hop, hm, hx, hrun, Result.andThen]
  exact hK' _ _ hK
/-- a bool in a box: so that no rule parts a 'for every' over it -/
structure Bx where
  b : Bool
/-- the step of a range loop, keys ints, elements bools -/
theorem wpl_next_ib {qk : IntKind} (hg : o.guard = none) (it : Operand) (hop : o.op = Op.next it false) (K : Keyed P k) (hk : P.underlying k = some (.int qk)) (he : P.underlying e = some .bool)
    (r : Nat) (left : Lit → Bool) (cnt : Nat) (hit : a.eval it = .pointer (some ⟨r, 0, none⟩)) (h : w.ranges P k (plainElem P e) b r n D left cnt)
    (hDone : (∀ kl, left kl = false) → wpList P ops Q rest (a.put o.dst (.tuple #[.bool false])) w)
    (hMore : ∀ (x : Int) (c : Bx) (w' : World) (cnt' : Nat), left (.int qk x) = true → (∀ zd, D.atKey (.int qk x) zd = .lit (.bool c.b)) → w'.ranges P k (plainElem P e) b r n D (fun z => left z && !z.sameKey (.int qk x)) cnt' → cnt' < cnt →
      w.grownBy w' (some r) → (Instr.entry (.pointer (some ⟨r, 0, none⟩))).run P w' = .ok (.tuple #[.int qk x, .bool c.b]) w' → wpList P ops Q rest (a.put o.dst (.tuple #[.bool true, .int qk x, .bool c.b])) w') :
    wpList P ops Q (o :: rest) a w :=
  wpList_next_ranges w hg it hop k K (plainElem P e) (Value.int qk) Value.bool (fun key kl hkey => by obtain ⟨x, rfl, _⟩ := Maps.keyOf_int_inv hk hkey; exact ⟨x, rfl⟩) (fun v y hv => by obtain ⟨c, rfl, _⟩ := plainElem_bool_inv he hv; exact ⟨c, rfl⟩)
    b r n D left cnt hit h (fun _ hl => hDone hl) (fun x c kl y w' cnt' hkey hlk hv hat hrg hlt hgr _ hen => by
      obtain ⟨x', ex, rfl, _⟩ := Maps.keyOf_int_inv hk hkey
      cases ex
      obtain ⟨c', ec, rfl⟩ := plainElem_bool_inv he hv
      cases ec
      exact hMore x ⟨c⟩ w' cnt' hlk hat hrg hlt hgr hen)
end
theorem keyLaw : Keyed Try.prog 3 := int_keyed Try.underlying3
theorem zeroBool (w : World) : (zeroValue 4).run Try.prog w = .ok (.bool false) w := by kernel_rfl
theorem grown_below {w w' : World} (h : Below w.heap.size w w') : w.grownBy w' none := ⟨h.os, h.tape, h.output, h.size, fun k hk _ => h.block k hk⟩
end Go.Proofs.Ytoknobcicpokoaa
