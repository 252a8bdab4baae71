/- The walk of WearOrder: it answers true, and changes nothing that was there. No condition. -/
import Derived.Test.YtdmganpblkepfaaWearEven
import Derived.Test.YtdmganpblkepfaaWearPerm
import Derived.Laws.StructEq
namespace Go.Proofs.Ytdmganpblkepfaa
open Go.RowKit WM
/-- append to a row of loads, of loads that are read, nil or not -/
theorem wpl_append_loads {ti : TypeInfo} {w : World} {base : Nat} {v : Value} {n : Nat} {xs : List Value} {ops : Array Oper} {rest : List Oper} {o : Oper} {a : Act} {Q : Exit → Act → World → Prop} {z : Value}
    (hi : Try.prog.info? 65 = some ti) (hz : ti.zero = some z) (hzc : z.cells.size = 4) (hs : ti.size = 4) (hby : ti.bytes = 32) (hgd : o.guard = none) (s x : Operand)
    (ho : o.op = .call { callee := .builtin .append, args := #[s, x], argTypes := #[56, 56] })
    (hv : a.eval s = v) (hown : w.ownsRow base 65 4 v n xs) (A : Option Addr) (m c : Nat) (L : List LV) (hm : L.length = m) (hx : a.eval x = .slice A m c) (B : Nat) (hr : Row w B A (L.flatMap rrow))
    (hnm : n + m ≤ 100000) (hbase : base ≤ w.heap.size) (k : Nat) (hk : n + m = k)
    (h : ∀ A' c' w', w'.ownsRow base 65 4 (.slice A' k c') k (xs ++ L.flatMap rrow) → w.grownBy w' v.ownBlock → wpList Try.prog ops Q rest (a.put o.dst (.slice A' k c')) w') : wpList Try.prog ops Q (o :: rest) a w := by
  subst hk
  cases A with
  | some ad =>
    refine wpList_append_own _ hgd s x 56 ho base 65 ti z 4 32 Try.underlying56 hi hz hs hby hzc (by omega) v n xs hv hown ad m c (L.flatMap rrow) hx (by rw [flat_length rrow_len, hm]) (fun j u hu => by obtain ⟨a', e, _, hc⟩ := hr j u hu; cases e; exact hc) (fun u hu => by obtain ⟨l, _, h⟩ := List.mem_flatMap.1 hu; exact rrow_one l u h) (by simp only [maxLen]; omega) (by omega) hbase ?_
    intro v' w' h1 h2 _
    obtain ⟨A', c', rfl, _, _⟩ := rows_shape h1
    exact h A' c' w' h1 h2
  | none =>
    obtain rfl : L = [] := by
      cases L with
      | nil => rfl
      | cons l r =>
        obtain ⟨a', e, _⟩ := hr 0 _ rfl
        cases e
    obtain rfl : m = 0 := by simpa using hm.symm
    obtain ⟨A', c', rfl, hc1, hc2⟩ := rows_shape hown
    have h' := h A' c' w (by simpa using hown) (World.grownBy.refl w _)
    refine BigFrame.wpList_want (by simp [Region.wanted, hgd]) fun K hK => ?_
    have hrun : (Builtin.append_ #[56, 56] o.type #[.slice A' n c', .slice none 0 c]).run Try.prog w = .ok (.slice A' n c') w := by
      rcases hown.2 with ⟨hv', h0⟩ | ⟨g, cap, cur, hv', _, _, hnc, _⟩
      · cases hv'
        simp [Builtin.append_, run_underlying Try.underlying56, sizeOf, typeInfo, hi, Builtin.lenOf, Builtin.firstCells]
      · cases hv'
        simp [Builtin.append_, run_underlying Try.underlying56, sizeOf, typeInfo, hi, Builtin.lenOf, Builtin.firstCells, hnc, storeCells]
    unfold Oper.wp execOp
    simp only [ho, resolve, invoke, builtin, Sem.run_bind, Sem.run_pure, Result.andThen_ok, List.map_toArray, List.map_cons, List.map_nil, hv, hx, hrun]
    exact hK _ _ (by simpa using h')
def modO (i : Nat) (l : LV) : LV := ⟨i + 1, l.wear, (i : Int), l.counts⟩
def orderTo (L : List LV) : Nat → List LV
  | 0 => L
  | k + 1 => (orderTo L k).set k (modO k (at_ (orderTo L k) k))
theorem orderTo_length (L : List LV) (k : Nat) : (orderTo L k).length = L.length := by
  induction k with
  | zero => rfl
  | succ k ih => simp [orderTo, ih]
theorem orderTo_at (L : List LV) (k i : Nat) (hk : k ≤ L.length) : at_ (orderTo L k) i = if i < k then modO i (at_ L i) else at_ L i := by
  induction k with
  | zero => rfl
  | succ k ih =>
    rw [orderTo, at_set (by rw [orderTo_length]; omega)]
    by_cases h : i = k
    · subst h
      rw [if_pos rfl, if_pos (by omega), ih (by omega), if_neg (by omega)]
    · rw [if_neg h, ih (by omega)]
      by_cases h2 : i < k
      · rw [if_pos h2, if_pos (by omega)]
      · rw [if_neg h2, if_neg (by omega)]
theorem orderTo_distinct (L : List LV) : Distinct (orderTo L L.length) := by
  unfold Distinct
  rw [List.pairwise_iff_getElem]
  intro i j hi hj hij
  have hi' : i < L.length := by rwa [orderTo_length] at hi
  have hj' : j < L.length := by rwa [orderTo_length] at hj
  have e : ∀ k (hk : k < (orderTo L L.length).length), (orderTo L L.length)[k] = modO k (at_ L k) := fun k hk => by
    have hk' : k < L.length := by rwa [orderTo_length] at hk
    have h := orderTo_at L L.length k (Nat.le_refl _)
    rw [if_pos hk'] at h
    rw [← h]
    unfold at_
    rw [List.getD_eq_getElem?_getD, List.getElem?_eq_getElem hk]
    rfl
  rw [e i hi, e j hj]
  unfold modO
  constructor
  · intro h; simp at h; omega
  · intro h; simp at h; omega
theorem at_getElem {L : List LV} {k : Nat} (h : k < L.length) : L[k] = at_ L k := by
  unfold at_
  rw [List.getD_eq_getElem?_getD, List.getElem?_eq_getElem h]
  rfl
/-- two loads change places -/
def swapL (M : List LV) (x y : Nat) : List LV := (M.set x (at_ M y)).set y (at_ M x)
theorem swapL_perm {M : List LV} {x y : Nat} (hx : x < M.length) (hy : y < M.length) : (swapL M x y).Perm M := by
  unfold swapL
  rw [← at_getElem hx, ← at_getElem hy]
  exact List.set_set_perm hx hy
theorem swapL_length (M : List LV) (x y : Nat) : (swapL M x y).length = M.length := by simp [swapL]
/-- the cells of M and what lies behind them, the load at k being stored -/
theorem segSet_load {M : List LV} {ex : List Value} {k : Nat} (hk : k < M.length) (l : LV) : segSet (M.flatMap rrow ++ ex) (k * 4) (rrow l) = (M.set k l).flatMap rrow ++ ex := by
  have e := seg4_of hk
  have h1 : ((M.take k).flatMap rrow).length = k * 4 := by rw [flat_length rrow_len, List.length_take]; congr 1; omega
  rw [← seg4_to hk l, e]
  unfold segSet seg4
  have t1 : ((M.take k).flatMap rrow ++ (rrow (at_ M k) ++ (M.drop (k + 1)).flatMap rrow) ++ ex).take (k * 4) = (M.take k).flatMap rrow := by
    rw [List.append_assoc, List.take_append_of_le_length (by omega), List.take_of_length_le (by omega)]
  have t2 : ((M.take k).flatMap rrow ++ (rrow (at_ M k) ++ (M.drop (k + 1)).flatMap rrow) ++ ex).drop (k * 4 + (rrow l).length) = (M.drop (k + 1)).flatMap rrow ++ ex := by
    rw [List.append_assoc, List.append_assoc, rrow_len, ← List.drop_drop, List.drop_append_of_le_length (by omega), List.drop_of_length_le (l := (M.take k).flatMap rrow) (by omega), List.nil_append, List.drop_append_of_le_length (by rw [rrow_len]; omega), List.drop_of_length_le (l := rrow (at_ M k)) (by rw [rrow_len]; omega), List.nil_append]
  rw [t1, t2]
  simp only [List.append_assoc]
theorem rows_blk {w : World} {base g n c : Nat} {xs : List Value} (h : w.ownsRow base 65 4 (.slice (some ⟨g, 0, none⟩) n c) n xs) : ∃ ex, Blk w g 65 (xs ++ ex) := by
  rcases h.2 with ⟨hv, _⟩ | ⟨g', cap, cur, hv, _, hb, _, _, hcs, ht⟩
  · cases hv
  · cases hv
    refine ⟨cur.toList.drop (n * 4), ?_⟩
    unfold Blk
    rw [← ht, List.take_append_drop]
    simpa using hb
theorem blk_row {w : World} {g : Nat} {t : TypeId} {xs ex : List Value} (h : Blk w g t (xs ++ ex)) : Row w w.heap.size (some ⟨g, 0, none⟩) xs := fun j u hu =>
  ⟨_, rfl, h.lt, by
    have ha : (⟨g, 0, none⟩ : Addr).add j = ⟨g, j, none⟩ := by unfold Addr.add; split <;> simp_all
    rw [ha, h.cell, List.getElem?_append_left (get_lt hu), hu]⟩
theorem load_fields : (Try.prog.fieldsOf 65).toList.map (fun f => (f.name == "_", f.type, f.offset)) = [(false, 22, 0), (false, 22, 1), (false, 3, 2), (false, 3, 3)] := by kernel_rfl
theorem rrow_part {l : LV} {j : Nat} {u : Value} (t : TypeId) (h1 : ∀ w, (isAgg t).run Try.prog w = .ok false w) (hu : (rrow l)[j]? = some u) (w : World) : (part t (rrow l).toArray j).run Try.prog w = .ok u w := by
  have hc : (rrow l).toArray[j]? = some u := by rw [List.getElem?_toArray]; exact hu
  simp only [part, Sem.run_bind, h1, Result.andThen_ok, hc, Bool.false_eq_true, if_false, Sem.run_pure]
theorem load_eq (l : LV) (w : World) : (Op.equalIn 10000 65 (.agg (rrow l).toArray) (.agg (rrow l).toArray)).run Try.prog w = .ok true w := by
  rw [show (10000 : Nat) = 9999 + 1 from rfl, run_equalIn_struct w 9999 _ _ _ (by kernel_rfl) (by kernel_rfl)]
  have hf := load_fields
  generalize (Try.prog.fieldsOf 65).toList = fs at hf
  rcases fs with _ | ⟨f0, _ | ⟨f1, _ | ⟨f2, _ | ⟨f3, _ | ⟨f4, r⟩⟩⟩⟩⟩
  · simp at hf
  · simp at hf
  · simp at hf
  · simp at hf
  · simp only [List.map_cons, List.map_nil, List.cons.injEq, Prod.mk.injEq, and_true] at hf
    obtain ⟨⟨n0, t0, o0⟩, ⟨n1, t1, o1⟩, ⟨n2, t2, o2⟩, n3, t3, o3⟩ := hf
    have m0 : f0.name ≠ "_" := by simpa using n0
    have m1 : f1.name ≠ "_" := by simpa using n1
    have m2 : f2.name ≠ "_" := by simpa using n2
    have m3 : f3.name ≠ "_" := by simpa using n3
    have q0 : ∀ (a : Int) (w : World), (Op.equalIn 9999 22 (.int .u64 a) (.int .u64 a)).run Try.prog w = .ok true w := fun a w => by rw [run_equalIn_int w 9998 22 .u64 .u64 _ _ Try.underlying22]; simp
    have q2 : ∀ (a : Int) (w : World), (Op.equalIn 9999 3 (.int .i64 a) (.int .i64 a)).run Try.prog w = .ok true w := fun a w => by rw [run_equalIn_int w 9998 3 .i64 .i64 _ _ Try.underlying3]; simp
    have p0 := fun w => rrow_part (l := l) (j := 0) 22 (fun _ => by kernel_rfl) rfl w
    have p1 := fun w => rrow_part (l := l) (j := 1) 22 (fun _ => by kernel_rfl) rfl w
    have p2 := fun w => rrow_part (l := l) (j := 2) 3 (fun _ => by kernel_rfl) rfl w
    have p3 := fun w => rrow_part (l := l) (j := 3) 3 (fun _ => by kernel_rfl) rfl w
    simp only [Op.eqFields, if_pos m0, if_pos m1, if_pos m2, if_pos m3, t0, o0, t1, o1, t2, o2, t3, o3, Sem.run_bind, p0, Result.andThen_ok, q0]
    simp [p1, p2, p3, q0, q2, Sem.run_bind, Sem.run_pure, Sem.run_ite]
  · simp at hf
end Go.Proofs.Ytdmganpblkepfaa
