/- What slices.DeleteFunc of entries leaves. No condition but that the entries are the call's own, and the names lie elsewhere. -/
import Derived.Test.YtkpojlnfagonbaaQInoPred
import Derived.Test.YtkpojlnfagonbaaQInoInsert
namespace Go.Proofs.Ytkpojlnfagonbaa
open Go Go.RowKit
/-- the entries whose names aren't among these -/
def wo (es : List EN) (xs : List ByteArray) : List EN := es.filter fun e => !hasS xs e.n
theorem wo_next {es : List EN} {xs : List ByteArray} {j : Nat} (hj : j < es.length) : wo (es.take (j + 1)) xs = if hasS xs (atE es j).n = true then wo (es.take j) xs else wo (es.take j) xs ++ [atE es j] := by
  have h1 : es.take (j + 1) = es.take j ++ [atE es j] := by
    rw [List.take_add_one, atE_get hj]
    rfl
  unfold wo
  rw [h1, List.filter_append]
  split
  · rename_i h
    simp [h]
  · rename_i h
    simp [h]
/-- what IndexFunc answers -/
def FIdx (es : List EN) (xs : List ByteArray) (z : Int) : Prop := (z = -1 ∧ ∀ k, k < es.length → hasS xs (atE es k).n = false) ∨ ∃ i : Nat, z = i ∧ i < es.length ∧ hasS xs (atE es i).n = true ∧ ∀ k, k < i → hasS xs (atE es k).n = false
theorem wo_none {es : List EN} {xs : List ByteArray} : ∀ (j : Nat), j ≤ es.length → (∀ k, k < j → hasS xs (atE es k).n = false) → wo (es.take j) xs = es.take j
  | 0, _, _ => rfl
  | j + 1, hj, h => by
    rw [wo_next (by omega), wo_none j (by omega) (fun k hk => h k (by omega)), if_neg (by rw [h j (by omega)]; simp), List.take_add_one, atE_get (by omega)]
    rfl
set_option maxRecDepth 100000 in
set_option maxHeartbeats 4000000 in
theorem ifunc_any (gn : Nat) (v vx : Value) (es : List EN) (xs : List ByteArray) (w : World) (hv : Ents w w.heap.size v es) (hl : es.length ≤ 1000) (hg : w.cell? ⟨gn, 0, none⟩ = some vx) (hx : Strs w w.heap.size vx xs) (hxl : xs.length ≤ 1000) :
    Calls Try.prog 63 #[v, .func (.func 42) #[] #[.pointer (some ⟨gn, 0, none⟩)]] w fun e w' => ∃ z : Int, Hid (FIdx es xs z) ∧ e = .returned (.int .i64 z) ∧ Below w.heap.size w w' := by
  obtain ⟨A, c, rfl, hc, hm⟩ := hv.shape
  have HV := Lib.hid hv
  have hgl : gn < w.heap.size := World.block_lt_of_cell? w _ hg
  have KP : Hid (∀ (e : EN) w', Below w.heap.size w w' → Calls Try.prog 42 #[.agg #[.string e.n, .int .i64 e.i], .pointer (some ⟨gn, 0, none⟩)] w' fun x w2 => x = .returned (.bool (hasS xs e.n)) ∧ Below w'.heap.size w' w2) := Lib.hid (fun e w' hb => pred_any gn vx xs e w' ((hb.cell (p := ⟨gn, 0, none⟩) hgl).trans hg) (hx.after hb) hxl)
  obtain ⟨N, hN⟩ : ∃ N, es.length = N := ⟨_, rfl⟩
  have HN := Lib.hid hN
  rw [hN] at HV hc hl ⊢
  clear hv hN hg hx hgl
  go_enter Try.func63, Try.ntmps63
  go_wp2_with fail
  go_loopw [8] (fun i wr => ∃ j : Nat, j ≤ N ∧ i = .int .i64 j ∧ Hid (Below w.heap.size w wr) ∧ Hid (∀ k, k < j → hasS xs (atE es k).n = false)) (fun i _ => N - (intOf i).toNat)
  case atStart => exact ⟨0, by omega, rfl, Lib.hid (Below.refl _ _), Lib.hid (fun k hk => by omega)⟩
  case round =>
    obtain ⟨j, hj, rfl, hb, hn⟩ := hrel
    by_cases hlt : j < N
    · obtain ⟨a, rfl, hab, hck⟩ := (HV.out.below hb.out).elem (atE_get (by rw [HN.out]; exact hlt : j < es.length))
      obtain ⟨E, hE⟩ : ∃ E, E = atE es j := ⟨_, rfl⟩
      rw [← hE] at hck
      have HCK := Lib.hid (show ∀ j' u, ([.string E.n, .int .i64 E.i] : List Value)[j']? = some u → wr.cell? ((a.add (j * 2)).add j') = some u from hck)
      have KE := Lib.hid (KP.out E wr hb.out)
      have HE := Lib.hid hE
      clear hck hE
      cases hbb : hasS xs E.n with
      | true =>
        rw [hbb] at KE
        have HBB := Lib.hid hbb
        clear hbb
        go_wp2_with (first | (with_reducible refine wpl_cells (q := a.add (j * 2)) (row := [.string E.n, .int .i64 E.i]) aggE sizeE (.tmp 14) rfl rfl rfl rfl HCK.out ?_) | ((with_reducible refine KE.out.mono ?_); rintro e w1 ⟨rfl, hb1⟩))
        go_ret
        exact ⟨(j : Int), Lib.hid (.inr ⟨j, rfl, by have := HN.out; omega, by rw [← HE.out]; exact HBB.out, hn.out⟩), rfl, hb.out.trans (hb1.mono hb.out.size)⟩
      | false =>
        rw [hbb] at KE
        have HBB := Lib.hid hbb
        clear hbb
        go_wp2_with (first | (with_reducible refine wpl_cells (q := a.add (j * 2)) (row := [.string E.n, .int .i64 E.i]) aggE sizeE (.tmp 14) rfl rfl rfl rfl HCK.out ?_) | ((with_reducible refine KE.out.mono ?_); rintro e w1 ⟨rfl, hb1⟩))
        exact ⟨⟨j + 1, by omega, by go_num, Lib.hid (hb.out.trans (hb1.mono hb.out.size)), Lib.hid (fun k hk => by
          rcases Nat.lt_or_ge k j with h | h
          · exact hn.out k h
          · have e : k = j := by omega
            rw [e, ← HE.out]
            exact HBB.out)⟩, by simp [intOf]; omega⟩
    · obtain rfl : j = N := by omega
      go_wp2_with fail
      go_ret
      exact ⟨-1, Lib.hid (.inl ⟨rfl, fun k hk => hn.out k (by have := HN.out; omega)⟩), rfl, hb.out⟩
/-- a row's cells made zero -/
theorem zero_one (n : Nat) : ∀ v ∈ (Builtin.zeroCells (Value.agg #[.string ByteArray.empty, .int .i64 0]).cells n).toList, v.oneCell' = true := by
  intro v hv
  unfold Builtin.zeroCells at hv
  rw [Array.toList_map, List.mem_map] at hv
  obtain ⟨i, _, rfl⟩ := hv
  have h2 : (Value.agg #[.string ByteArray.empty, .int .i64 0]).cells = #[.string ByteArray.empty, .int .i64 0] := rfl
  rw [h2]
  rcases (show i % 2 = 0 ∨ i % 2 = 1 by omega) with h | h
  · rw [show (#[Value.string ByteArray.empty, .int .i64 0] : Array Value).size = 2 from rfl, h]; rfl
  · rw [show (#[Value.string ByteArray.empty, .int .i64 0] : Array Value).size = 2 from rfl, h]; rfl
theorem zeroEnt (w : World) : (zeroValue 32).run Try.prog w = .ok (.agg #[.string ByteArray.empty, .int .i64 0]) w := by kernel_rfl
theorem clear_row {w : World} {g o k cp : Nat} {cs : List Value} {t : TypeId} (hB : Blk w g t cs) (hfit : o + k * 2 ≤ cs.length) :
    ∃ w' Z, (∀ ty, (Builtin.clear_ #[22] ty #[.slice (some ⟨g, o, none⟩) k cp]).run Try.prog w = .ok (.tuple #[]) w') ∧ Z.length = k * 2 ∧ Blk w' g t (cs.take o ++ Z ++ cs.drop (o + k * 2)) ∧ w.grownBy w' (some g) := by
  cases k with
  | zero =>
    refine ⟨w, [], fun ty => ?_, rfl, ?_, World.grownBy.refl _ _⟩
    · simp [Builtin.clear_, run_underlying Try.underlying22]
    · rw [List.append_nil, Nat.zero_mul, Nat.add_zero, List.take_append_drop]; exact hB
  | succ k =>
    obtain ⟨zv, hzv⟩ : ∃ zv, zv = Value.agg #[.string ByteArray.empty, .int .i64 0] := ⟨_, rfl⟩
    have hz := zeroEnt
    have h1 := zero_one (k + 1)
    have hl : (Builtin.zeroCells (Value.agg #[.string ByteArray.empty, .int .i64 0]).cells (k + 1)).toList.length = (k + 1) * 2 := by rw [Array.length_toList, size_zeroCells]; rfl
    rw [← hzv] at h1 hl
    simp only [← hzv] at hz
    have hst := run_storeCells_at Try.prog g o t (Builtin.zeroCells zv.cells (k + 1)).toList 0 cs.toArray w hB (by rw [hl]; simpa using hfit) h1
    rw [List.toList_toArray, hl, Nat.add_zero] at hst
    clear hzv h1
    refine ⟨_, (Builtin.zeroCells zv.cells (k + 1)).toList, fun ty => ?_, hl, setRow_heap w g cs.toArray _ _ _ hB, ⟨rfl, rfl, rfl, by simp, fun q _ hq => setRow_other w g q _ (by simpa using hq)⟩⟩
    simp only [Builtin.clear_, Sem.run_bind, run_underlying Try.underlying22, hz, hst, Result.andThen_ok, Sem.run_pure, List.getElem?_toArray, List.getElem?_cons_zero]
    rfl
theorem wpl_clear_run {P : Program} (w : World) {ops : Array Oper} {rest : List Oper} {o : Oper} {a : Act} {Q : Exit → Act → World → Prop} (hgd : Region.wanted o (yielded ops a.tmps) = true) (d : Operand) (t : TypeId)
    (ho : o.op = .call { callee := .builtin .clear, args := #[d], argTypes := #[t] }) (v : Value) (hd : a.eval d = v) {w' : World}
    (hr : ∀ ty, (Builtin.clear_ #[t] ty #[v]).run P w = .ok (.tuple #[]) w') (h : wpList P ops Q rest (a.put o.dst (.tuple #[])) w') : wpList P ops Q (o :: rest) a w := by
  refine BigFrame.wpList_want hgd fun K hK => ?_
  unfold Oper.wp execOp
  simp only [ho, resolve, invoke, builtin, Sem.run_bind, Sem.run_pure, Result.andThen_ok, List.map_toArray, List.map_cons, List.map_nil, hd, hr]
  exact hK _ _ h
theorem row_elem {cur : List Value} {R : List EN} {N j : Nat} (ht : cur.take (N * 2) = erows R) (hR : R.length = N) (hj : j < N) : (cur.drop (j * 2)).take 2 = [.string (atE R j).n, .int .i64 (atE R j).i] := by
  have h1 : (cur.drop (j * 2)).take 2 = ((cur.take (N * 2)).drop (j * 2)).take 2 := by
    rw [List.drop_take, List.take_take, Nat.min_eq_left (by omega)]
  have h2 : R = R.take j ++ atE R j :: R.drop (j + 1) := by
    have h3 := atE_get (by omega : j < R.length)
    obtain ⟨hl, he⟩ := List.getElem?_eq_some_iff.1 h3
    rw [← he, List.getElem_cons_drop, List.take_append_drop]
  rw [h1, ht]
  have h4 : erows R = erows (R.take j) ++ (erow (atE R j) ++ erows (R.drop (j + 1))) := by
    conv => lhs; rw [h2]
    rw [erows_append]
    rfl
  rw [h4, List.drop_append_of_le_length (by rw [erows_length, List.length_take]; omega), List.drop_eq_nil_of_le (by rw [erows_length, List.length_take]; omega), List.nil_append, List.take_append_of_le_length (by simp [erow])]
  rfl
theorem row_put {cur : List Value} {R : List EN} {N i : Nat} (ht : cur.take (N * 2) = erows R) (hR : R.length = N) (hi : i < N) (x : EN) : (segSet cur (i * 2) [.string x.n, .int .i64 x.i]).take (N * 2) = erows (R.set i x) := by
  have h2 : R = R.take i ++ atE R i :: R.drop (i + 1) := by
    have h3 := atE_get (by omega : i < R.length)
    obtain ⟨hl, he⟩ := List.getElem?_eq_some_iff.1 h3
    rw [← he, List.getElem_cons_drop, List.take_append_drop]
  have h5 : R.set i x = R.take i ++ x :: R.drop (i + 1) := by rw [List.set_eq_take_append_cons_drop, if_pos (by omega)]
  have hcur : cur = erows R ++ cur.drop (N * 2) := by rw [← ht, List.take_append_drop]
  have h4 : erows R = erows (R.take i) ++ (erow (atE R i) ++ erows (R.drop (i + 1))) := by
    conv => lhs; rw [h2]
    rw [erows_append]
    rfl
  have hlt : (erows (R.take i)).length = i * 2 := by rw [erows_length, List.length_take]; omega
  have h6 : segSet cur (i * 2) [.string x.n, .int .i64 x.i] = erows (R.set i x) ++ cur.drop (N * 2) := by
    unfold segSet
    rw [h5, erows_append]
    have e1 : cur.take (i * 2) = erows (R.take i) := by
      rw [hcur, h4, List.append_assoc, List.take_append_of_le_length (by omega), List.take_of_length_le (by omega)]
    have e2 : cur.drop (i * 2 + 2) = erows (R.drop (i + 1)) ++ cur.drop (N * 2) := by
      conv => lhs; rw [hcur, h4]
      rw [List.append_assoc, List.append_assoc, List.drop_append, hlt, List.drop_eq_nil_of_le (by omega), List.nil_append, show i * 2 + 2 - i * 2 = 2 by omega]
      rfl
    rw [e1, show i * 2 + [Value.string x.n, .int .i64 x.i].length = i * 2 + 2 from rfl, e2]
    show erows (R.take i) ++ erow x ++ (erows (R.drop (i + 1)) ++ cur.drop (N * 2)) = erows (R.take i) ++ (erow x ++ erows (R.drop (i + 1))) ++ cur.drop (N * 2)
    simp only [List.append_assoc]
  rw [h6, List.take_append_of_le_length (by rw [erows_length, List.length_set, hR]; exact Nat.le_refl _), List.take_of_length_le (by rw [erows_length, List.length_set, hR]; exact Nat.le_refl _)]
theorem set_next {R es : List EN} {i j : Nat} {xs : List ByteArray} (hij : i ≤ j) (hj : j < es.length) (hR : R.length = es.length) (h1 : R.take i = wo (es.take j) xs) (h2 : R.drop j = es.drop j) (hh : hasS xs (atE es j).n = false) : (R.set i (atE es j)).take (i + 1) = wo (es.take (j + 1)) xs ∧ (R.set i (atE es j)).drop (j + 1) = es.drop (j + 1) ∧ (R.set i (atE es j)).length = es.length := by
  refine ⟨?_, ?_, by rw [List.length_set, hR]⟩
  · rw [wo_next hj, if_neg (by rw [hh]; simp), ← h1, List.set_eq_take_append_cons_drop, if_pos (by omega), List.take_append, List.length_take, Nat.min_eq_left (by omega), List.take_of_length_le (by rw [List.length_take]; omega), show i + 1 - i = 1 by omega]
    rfl
  · rw [List.drop_set_of_lt (by omega), ← List.drop_drop, h2, List.drop_drop]
theorem skip_next {R es : List EN} {i j : Nat} {xs : List ByteArray} (hj : j < es.length) (h1 : R.take i = wo (es.take j) xs) (h2 : R.drop j = es.drop j) (hh : hasS xs (atE es j).n = true) : R.take i = wo (es.take (j + 1)) xs ∧ R.drop (j + 1) = es.drop (j + 1) := by
  refine ⟨?_, ?_⟩
  · rw [wo_next hj, if_pos hh, h1]
  · rw [← List.drop_drop, h2, List.drop_drop]
theorem at_drop {R es : List EN} {j : Nat} (h : R.drop j = es.drop j) : atE R j = atE es j := by
  unfold atE
  have h1 : (R.drop j)[0]? = (es.drop j)[0]? := by rw [h]
  rw [List.getElem?_drop, List.getElem?_drop, Nat.add_zero] at h1
  rw [List.getD_eq_getElem?_getD, List.getD_eq_getElem?_getD, h1]
end Go.Proofs.Ytkpojlnfagonbaa

