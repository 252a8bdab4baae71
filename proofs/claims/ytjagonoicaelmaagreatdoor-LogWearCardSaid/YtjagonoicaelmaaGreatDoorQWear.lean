/- Several texts of the proof, joined: what each has is said at its head. -/
import Derived.WalkKit
import Derived.Test.YtjagonoicaelmaaGreatDoorQCore
/- The mathematics of layer 10: the least of some by an order, the first one of several; what is unique; the greatest wear above the least. No condition. -/
namespace Go.Proofs.YtjagonoicaelmaaGreatDoor.WM
/-- a load: its number, wear, block, and how many of its records count -/
structure LV where
  seq : Nat
  wear : Nat
  block : Int
  counts : Int
deriving DecidableEq
instance : Inhabited LV := ⟨⟨0, 0, 0, 0⟩⟩
/-- the place of the first least one of the first k -/
def lfold (lt : Nat → Nat → Bool) : Nat → Nat
  | 0 => 0
  | k + 1 => if lt k (lfold lt k) then k else lfold lt k
theorem lfold_lt (lt : Nat → Nat → Bool) {k n : Nat} (h : k ≤ n) (hn : 0 < n) : lfold lt k < n := by
  induction k with
  | zero => exact hn
  | succ k ih =>
    unfold lfold
    split
    · omega
    · exact ih (by omega)
theorem lfold_congr {lt lt' : Nat → Nat → Bool} {k : Nat} (h : ∀ i j, i < k → j < k → lt i j = lt' i j) : lfold lt k = lfold lt' k := by
  induction k with
  | zero => rfl
  | succ k ih =>
    have e := ih fun i j hi hj => h i j (by omega) (by omega)
    unfold lfold
    rw [e]
    have hl : lfold lt' k < k + 1 := lfold_lt lt' (by omega) (by omega)
    rw [h k _ (by omega) hl]
def step {α : Type} (lt : α → α → Bool) (b : Option α) (x : α) : Option α :=
  match b with
  | none => some x
  | some y => if lt x y then some x else some y
/-- the first least one of a list -/
def pick {α : Type} (lt : α → α → Bool) (l : List α) : Option α := l.foldl (step lt) none
section
variable {α : Type} {lt : α → α → Bool} {l : List α}
theorem pick_snoc (x : α) : pick lt (l ++ [x]) = step lt (pick lt l) x := by unfold pick; rw [List.foldl_append]; rfl
theorem pick_nil : pick lt ([] : List α) = none := rfl
theorem snoc_ind {P : List α → Prop} (l : List α) (h0 : P []) (h1 : ∀ l x, P l → P (l ++ [x])) : P l := by
  have : ∀ r : List α, P r.reverse := by
    intro r
    induction r with
    | nil => exact h0
    | cons x r ih => rw [List.reverse_cons]; exact h1 _ _ ih
  have h := this l.reverse
  rwa [List.reverse_reverse] at h
theorem pick_mem {y : α} (h : pick lt l = some y) : y ∈ l := by
  revert y
  refine snoc_ind (P := fun l => ∀ {y}, pick lt l = some y → y ∈ l) l ?_ ?_
  · intro y h; cases h
  · intro l x ih y h
    rw [pick_snoc] at h
    cases hp : pick lt l with
    | none =>
      rw [hp] at h
      simp only [step, Option.some.injEq] at h
      simp [h]
    | some z =>
      rw [hp] at h
      simp only [step] at h
      split at h
      · simp only [Option.some.injEq] at h
        simp [h]
      · simp only [Option.some.injEq] at h
        subst h
        exact List.mem_append_left _ (ih hp)
theorem pick_none : pick lt l = none ↔ l = [] := by
  constructor
  · refine snoc_ind (P := fun l => pick lt l = none → l = []) l (fun _ => rfl) ?_
    intro l x _ h
    rw [pick_snoc] at h
    exfalso
    cases hp : pick lt l with
    | none => rw [hp] at h; cases h
    | some z => rw [hp] at h; simp only [step] at h; split at h <;> cases h
  · rintro rfl; rfl
/-- who is ahead of all others is picked -/
theorem pick_unique {m : α} (hm : m ∈ l) (h : ∀ x ∈ l, x ≠ m → lt m x = true ∧ lt x m = false) : pick lt l = some m := by
  have key : (∀ x ∈ l, x ≠ m → lt m x = true ∧ lt x m = false) → (m ∈ l → pick lt l = some m) ∧ (m ∉ l → ∀ y, pick lt l = some y → y ≠ m) := by
    refine snoc_ind (P := fun l => (∀ x ∈ l, x ≠ m → lt m x = true ∧ lt x m = false) → (m ∈ l → pick lt l = some m) ∧ (m ∉ l → ∀ y, pick lt l = some y → y ≠ m)) l ?_ ?_
    · intro _
      exact ⟨fun h => by simp at h, fun _ y h => by cases h⟩
    · intro l x ih hx
      obtain ⟨i1, i2⟩ := ih fun y hy hne => hx y (List.mem_append_left _ hy) hne
      have hxx := hx x (by simp)
      rw [pick_snoc]
      constructor
      · intro hmem
        by_cases hml : m ∈ l
        · rw [i1 hml]
          simp only [step]
          by_cases hxm : x = m
          · subst hxm; split <;> rfl
          · rw [(hxx hxm).2]; rfl
        · obtain rfl : m = x := by
            rcases List.mem_append.1 hmem with h | h
            · exact absurd h hml
            · simpa using h
          cases hp : pick lt l with
          | none => rfl
          | some z =>
            have hz := i2 hml z hp
            have := (hx z (List.mem_append_left _ (pick_mem hp)) hz).1
            simp only [step, this, if_true]
      · intro hmem y hy
        have hml : m ∉ l := fun h => hmem (List.mem_append_left _ h)
        have hxm : x ≠ m := fun h => hmem (by simp [h])
        cases hp : pick lt l with
        | none =>
          rw [hp] at hy
          simp only [step, Option.some.injEq] at hy
          rw [← hy]; exact hxm
        | some z =>
          rw [hp] at hy
          simp only [step] at hy
          split at hy
          · simp only [Option.some.injEq] at hy
            rw [← hy]; exact hxm
          · simp only [Option.some.injEq] at hy
            rw [← hy]; exact i2 hml z hp
  exact (key h).1 hm
end
/-- the place that is found in a list is that of what is picked -/
theorem pick_take {α : Type} [Inhabited α] (lt : α → α → Bool) (xs : List α) (k : Nat) (hk : k ≤ xs.length) (h0 : 0 < k) :
    pick lt (xs.take k) = some (xs.getD (lfold (fun i j => lt (xs.getD i default) (xs.getD j default)) k) default) := by
  induction k with
  | zero => omega
  | succ k ih =>
    have hx : xs[k]? = some (xs.getD k default) := by rw [List.getD_eq_getElem?_getD, List.getElem?_eq_getElem (by omega)]; rfl
    have e : xs.take (k + 1) = xs.take k ++ [xs.getD k default] := by
      rw [List.take_succ_eq_append_getElem (by omega)]
      rw [List.getElem?_eq_getElem (by omega)] at hx
      rw [Option.some.inj hx]
    rw [e, pick_snoc]
    rcases Nat.eq_zero_or_pos k with rfl | hp
    · have h1 : ∀ f : Nat → Nat → Bool, lfold f (0 + 1) = 0 := fun f => by
        show (if f 0 0 = true then 0 else 0) = 0
        cases f 0 0 <;> rfl
      rw [h1, List.take_zero, pick_nil]
      rfl
    · rw [ih (by omega) hp]
      simp only [step]
      conv => rhs; unfold lfold
      split <;> rename_i h
      · rfl
      · rfl
theorem pick_all {α : Type} [Inhabited α] (lt : α → α → Bool) (xs : List α) (h0 : 0 < xs.length) :
    pick lt xs = some (xs.getD (lfold (fun i j => lt (xs.getD i default) (xs.getD j default)) xs.length) default) := by
  have := pick_take lt xs xs.length (Nat.le_refl _) h0
  rwa [List.take_length] at this
/-- the least by a number is no greater than any -/
theorem lfold_min (key : Nat → Nat) (k i : Nat) (h : i < k) : key (lfold (fun a b => decide (key a < key b)) k) ≤ key i := by
  induction k with
  | zero => omega
  | succ k ih =>
    unfold lfold
    split <;> rename_i hc
    · rcases Nat.lt_or_ge i k with hi | hi
      · have := ih hi
        simp only [decide_eq_true_eq] at hc
        omega
      · obtain rfl : i = k := by omega
        exact Nat.le_refl _
    · rcases Nat.lt_or_ge i k with hi | hi
      · exact ih hi
      · obtain rfl : i = k := by omega
        simp only [decide_eq_true_eq] at hc
        omega
theorem lfold_max (key : Nat → Nat) (k i : Nat) (h : i < k) : key i ≤ key (lfold (fun a b => decide (key b < key a)) k) := by
  induction k with
  | zero => omega
  | succ k ih =>
    unfold lfold
    split <;> rename_i hc
    · rcases Nat.lt_or_ge i k with hi | hi
      · have := ih hi
        simp only [decide_eq_true_eq] at hc
        omega
      · obtain rfl : i = k := by omega
        exact Nat.le_refl _
    · rcases Nat.lt_or_ge i k with hi | hi
      · exact ih hi
      · obtain rfl : i = k := by omega
        simp only [decide_eq_true_eq] at hc
        omega
/-- newer, sooner, more and less worn -/
def newer (a b : LV) : Bool := decide (b.seq < a.seq)
def sooner (a b : LV) : Bool := decide (a.counts < b.counts) || (decide (a.counts = b.counts) && (decide (a.wear < b.wear) || (decide (a.wear = b.wear) && decide (a.block < b.block))))
def lessWorn (a b : LV) : Bool := decide (a.wear < b.wear)
def moreWorn (a b : LV) : Bool := decide (b.wear < a.wear)
def at_ (L : List LV) (i : Nat) : LV := L.getD i default
/-- the newest one's place -/
def newest (L : List LV) : Nat := lfold (fun i j => newer (at_ L i) (at_ L j)) L.length
def others (L : List LV) (k : Nat) : List Nat := (List.range k).filter fun i => !decide (i = newest L)
/-- the place of the one that is emptied next -/
def victim (L : List LV) : Option Nat := pick (fun i j => sooner (at_ L i) (at_ L j)) (others L L.length)
theorem others_succ (L : List LV) (k : Nat) : others L (k + 1) = others L k ++ (if k = newest L then [] else [k]) := by
  unfold others
  rw [List.range_succ, List.filter_append]
  by_cases h : k = newest L <;> simp [h]
theorem others_lt {L : List LV} {k i : Nat} (h : i ∈ others L k) : i < k := by
  unfold others at h
  exact List.mem_range.1 (List.mem_filter.1 h).1
theorem others_length_le (L : List LV) (k : Nat) : (others L k).length ≤ k := by
  unfold others
  exact Nat.le_trans (List.length_filter_le _ _) (by simp)
theorem victim_lt {L : List LV} {i : Nat} (h : victim L = some i) : i < L.length := others_lt (pick_mem h)
/-- what the program finds is the victim -/
theorem victim_some {L : List LV} (h : 0 < (others L L.length).length) :
    victim L = some ((others L L.length).getD (lfold (fun i j => sooner (at_ L ((others L L.length).getD i 0)) (at_ L ((others L L.length).getD j 0))) (others L L.length).length) 0) :=
  pick_all (fun i j => sooner (at_ L i) (at_ L j)) (others L L.length) h
theorem victim_none {L : List LV} (h : others L L.length = []) : victim L = none := by unfold victim; rw [h]; rfl
/-- .. and so is what the document's way finds: best over the first k -/
def best (L : List LV) (k : Nat) : Option Nat := pick (fun i j => sooner (at_ L i) (at_ L j)) (others L k)
theorem best_succ (L : List LV) (k : Nat) : best L (k + 1) = if k = newest L then best L k else step (fun i j => sooner (at_ L i) (at_ L j)) (best L k) k := by
  unfold best
  rw [others_succ]
  split
  · rw [List.append_nil]
  · rw [pick_snoc]
end Go.Proofs.YtjagonoicaelmaaGreatDoor.WM

/- Layer 10: loads in memory; how one is loaded; how two are compared. No condition but that they are there. -/
namespace Go.Proofs.YtjagonoicaelmaaGreatDoor
open Go.RowKit WM
/-- a load's cells: the document's, and the program's -/
def rrow (l : LV) : List Value := [.int .u64 (l.seq : Int), .int .u64 (l.wear : Int), .int .i64 l.block, .int .i64 l.counts]
def mrow (l : LV) : List Value := [.int .i64 l.block, .int .u64 (l.seq : Int), .int .u64 (l.wear : Int), .slice none 0 0, .int .i64 l.counts]
theorem rrow_one (l : LV) : ∀ v ∈ rrow l, v.oneCell' = true := by simp [rrow, Value.oneCell']
theorem mrow_one (l : LV) : ∀ v ∈ mrow l, v.oneCell' = true := by simp [mrow, Value.oneCell']
/-- a load's numbers fit -/
structure LV.ok (l : LV) : Prop where
  seq : l.seq < 18446744073709551616
  wear : l.wear < 18446744073709551616
  block : (Lit.int .i64 l.block).wf = true
  counts : (Lit.int .i64 l.counts).wf = true
theorem flat_get {f : LV → List Value} {s : Nat} (hf : ∀ l, (f l).length = s) : ∀ (L : List LV) (i j : Nat) (l : LV) (u : Value), L[i]? = some l → (f l)[j]? = some u → (L.flatMap f)[i * s + j]? = some u
  | [], i, j, l, u, h, _ => by simp at h
  | x :: L, 0, j, l, u, h, hu => by
    simp only [List.getElem?_cons_zero, Option.some.injEq] at h
    subst h
    rw [List.flatMap_cons, Nat.zero_mul, Nat.zero_add, List.getElem?_append_left (get_lt hu), hu]
  | x :: L, i + 1, j, l, u, h, hu => by
    rw [List.flatMap_cons, List.getElem?_append_right (by rw [hf]; have : (i + 1) * s = i * s + s := Nat.succ_mul i s; omega), hf, show (i + 1) * s + j - s = i * s + j by have : (i + 1) * s = i * s + s := Nat.succ_mul i s; omega]
    exact flat_get hf L i j l u (by simpa using h) hu
theorem flat_length {f : LV → List Value} {s : Nat} (hf : ∀ l, (f l).length = s) (L : List LV) : (L.flatMap f).length = L.length * s := by
  induction L with
  | nil => simp
  | cons x L ih => rw [List.flatMap_cons, List.length_append, hf, ih, List.length_cons, Nat.succ_mul]; omega
theorem rrow_len (l : LV) : (rrow l).length = 4 := rfl
theorem mrow_len (l : LV) : (mrow l).length = 5 := rfl
/-- the cells of the load at a place -/
theorem Row.elem {w : World} {B : Nat} {A : Option Addr} {f : LV → List Value} {s : Nat} {L : List LV} (h : Row w B A (L.flatMap f)) (hf : ∀ l, (f l).length = s) (hs : 0 < s) {i : Nat} {l : LV} (hi : L[i]? = some l) :
    ∃ a, A = some a ∧ a.block < B ∧ ∀ j u, (f l)[j]? = some u → w.cell? ((a.add (i * s)).add j) = some u := by
  have h0 : ∃ u, (f l)[0]? = some u := ⟨_, List.getElem?_eq_getElem (by rw [hf]; exact hs)⟩
  obtain ⟨u, hu⟩ := h0
  obtain ⟨a, rfl, hb, _⟩ := h _ _ (flat_get hf L i 0 l u hi hu)
  refine ⟨a, rfl, hb, fun j u hu => ?_⟩
  obtain ⟨a', e, _, hc⟩ := h _ _ (flat_get hf L i j l u hi hu)
  cases e
  rw [add_twice]
  exact hc
section
variable {P : Program} {w : World} {ty : TypeId} {n : Nat} {q : Addr} {row : List Value}
/-- a value of many cells is loaded, wherever it stands -/
theorem cells_load (hag : ∀ w, (isAgg ty).run P w = .ok true w) (hsz : ∀ w, (sizeOf ty).run P w = .ok n w) (hn : row.length = n) (hc : ∀ j u, row[j]? = some u → w.cell? (q.add j) = some u) : (loadVar ty q).run P w = .ok (.agg row.toArray) w := by
  have h1 := run_loadCells_list (P := P) w q row hc
  rw [hn] at h1
  unfold loadVar
  simp only [Sem.run_bind, hag, Result.andThen_ok, if_true, hsz, Sem.run_pure, h1]
theorem wpl_cells {ops : Array Oper} {rest : List Oper} {o : Oper} {a : Act} {Q : Exit → Act → World → Prop} (hag : ∀ w, (isAgg ty).run P w = .ok true w) (hsz : ∀ w, (sizeOf ty).run P w = .ok n w) (x : Operand) (ho : o.op = .load ty x) (hgd : Region.wanted o (yielded ops a.tmps) = true) (hx : a.eval x = .pointer (some q))
    (hn : row.length = n) (hc : ∀ j u, row[j]? = some u → w.cell? (q.add j) = some u) (h : wpList P ops Q rest (a.put o.dst (.agg row.toArray)) w) : wpList P ops Q (o :: rest) a w := by
  refine BigFrame.wpList_want hgd fun K hK => ?_
  unfold Oper.wp execOp
  simp only [ho, hx, Instr.loadAt, Instr.sureAddr, Sem.run_bind, Sem.run_pure, Result.andThen_ok, cells_load hag hsz hn hc]
  exact hK _ _ h
theorem yields_cells {ops : Array Oper} {o : Oper} {a : Act} {S : World → Prop} (hag : ∀ w, (isAgg ty).run P w = .ok true w) (hsz : ∀ w, (sizeOf ty).run P w = .ok n w) (x : Operand) (ho : o.op = .load ty x) (hgd : Region.wanted o (yielded ops a.tmps) = true) (hx : a.eval x = .pointer (some q))
    (hn : row.length = n) (hS : ∀ w, S w → ∀ j u, row[j]? = some u → w.cell? (q.add j) = some u) : YieldsIf P ops S o (.agg row.toArray) a :=
  .inl ⟨hgd, fun w hw => by
    unfold execOp
    simp only [ho, hx, Instr.loadAt, Instr.sureAddr, Sem.run_bind, Sem.run_pure, Result.andThen_ok, cells_load hag hsz hn (hS w hw)]⟩
end
/-- how two numbers are compared -/
def cmp3 (a b : Int) : Int := if a < b then -1 else if b < a then 1 else 0
theorem cmp3_neg (a b : Int) : decide (cmp3 a b < 0) = decide (a < b) := by
  unfold cmp3
  by_cases h : a < b
  · simp [h]
  · by_cases h2 : b < a <;> simp [h, h2]
theorem cmp3_zero (a b : Int) : cmp3 a b = 0 ↔ a = b := by unfold cmp3; split <;> (try split) <;> omega
theorem nan_u64 (a : Int) (w : World) : Calls Tryz.prog 85 #[.int .u64 a] w fun e w' => e = .returned (.bool false) ∧ w = w' := by
  go_enter Tryz.func85, Tryz.ntmps85
  go_wp2
  go_ret
  exact ⟨rfl, rfl⟩
theorem compare_u64 (a b : Int) (w : World) : Calls Tryz.prog 59 #[.int .u64 a, .int .u64 b] w fun e w' => e = .returned (.int .i64 (cmp3 a b)) ∧ w = w' := by
  unfold cmp3
  by_cases h : a < b
  · rw [if_pos h]
    go_enter Tryz.func59, Tryz.ntmps59
    go_wp2_with ((with_reducible refine (nan_u64 _ _).mono ?_); rintro e w' ⟨rfl, rfl⟩)
    go_ret
    exact ⟨rfl, rfl⟩
  · rw [if_neg h]
    by_cases h2 : b < a
    · rw [if_pos h2]
      go_enter Tryz.func59, Tryz.ntmps59
      go_wp2_with ((with_reducible refine (nan_u64 _ _).mono ?_); rintro e w' ⟨rfl, rfl⟩)
      go_ret
      exact ⟨rfl, rfl⟩
    · rw [if_neg h2]
      go_enter Tryz.func59, Tryz.ntmps59
      go_wp2_with ((with_reducible refine (nan_u64 _ _).mono ?_); rintro e w' ⟨rfl, rfl⟩)
      go_ret
      exact ⟨rfl, rfl⟩
/-- the first of some numbers that isn't 0 -/
def firstNZ : List Int → Int
  | [] => 0
  | z :: zs => if z = 0 then firstNZ zs else z
end Go.Proofs.YtjagonoicaelmaaGreatDoor

