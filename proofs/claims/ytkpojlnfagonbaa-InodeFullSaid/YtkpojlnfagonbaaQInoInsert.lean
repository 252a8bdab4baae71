/- What slices.Insert of one entry leaves: in the row where there is room, in a new one where there isn't. No condition but that the entries are the call's own and few. -/
import Derived.Test.YtkpojlnfagonbaaQInoClone
import Derived.Test.YtkpojlnfagonbaaQCore
import Derived.Lib.Overlaps
import Derived.Lib.AppendZerosOnto
import Derived.Deep.RegionHeld3
namespace Go.Proofs.Ytkpojlnfagonbaa
open Go Go.RowKit
theorem add_zero' (g j : Nat) : (⟨g, 0, none⟩ : Addr).add j = ⟨g, j, none⟩ := by unfold Addr.add; split <;> simp_all
theorem run_copy_at {P : Program} (w : World) (dT sT ty elem : TypeId) (g o dLen dCap : Nat) (a : Addr) (sLen sCap : Nat) (cur : Array Value) (t : TypeId) (cs : List Value) (s : Nat)
    (hu : P.underlying dT = some (.slice elem)) (hs : (P.info? elem).map (·.size) = some s)
    (hg : w.heap[g]? = some (.cells cur t (0, 0))) (hn : cs.length = Nat.min sLen dLen * s)
    (hsrc : ∀ j v, cs[j]? = some v → w.cell? (a.add j) = some v) (hfit : o + cs.length ≤ cur.size) (h1 : ∀ v ∈ cs, v.oneCell' = true) :
    (Builtin.copy_ #[dT, sT] ty #[.slice (some ⟨g, o, none⟩) dLen dCap, .slice (some a) sLen sCap]).run P w =
      .ok (goInt (Nat.min sLen dLen)) (w.setRow g (cur.toList.take o ++ cs ++ cur.toList.drop (o + cs.length)).toArray) := by
  have hl := run_loadCells_list (P := P) w a cs hsrc
  have hst := run_storeCells_at P g o t cs 0 cur w hg (by simpa using hfit) h1
  cases hq : P.info? elem with
  | none => simp [hq] at hs
  | some i =>
    have hi : i.size = s := by simpa [hq] using hs
    simp [Builtin.copy_, run_underlying hu, Builtin.lenOf, Builtin.firstCells, sizeOf, typeInfo, hq, hi, ← hn, hl, hst]
theorem sizeEnt? : (Try.prog.info? 32).map (·.size) = some 2 := by kernel_rfl
theorem sizeEnt (w : World) : (sizeOf 32).run Try.prog w = .ok 2 w := by kernel_rfl
/-- entries are copied into a row -/
theorem copy_ents {w : World} {g o dLen dCap : Nat} {a : Addr} {sLen sCap : Nat} {cs : List Value} {L : List EN} {t : TypeId} {k : Nat} (hB : Blk w g t cs) (hk : Nat.min sLen dLen = k) (hL : L.length = k) (hsrc : ∀ j v, (erows L)[j]? = some v → w.cell? (a.add j) = some v) (hfit : o + k * 2 ≤ cs.length)
    (cs' : List Value) (hcs : cs.take o ++ erows L ++ cs.drop (o + k * 2) = cs') :
    ∃ w', (∀ ty, (Builtin.copy_ #[22, 22] ty #[.slice (some ⟨g, o, none⟩) dLen dCap, .slice (some a) sLen sCap]).run Try.prog w = .ok (goInt k) w') ∧ Blk w' g t cs' ∧ w.grownBy w' (some g) ∧ w'.heap.size = w.heap.size := by
  have hl : (erows L).length = k * 2 := by rw [erows_length, hL]
  have h := fun ty => run_copy_at (P := Try.prog) w 22 22 ty 32 g o dLen dCap a sLen sCap cs.toArray t (erows L) 2 Try.underlying22 sizeEnt? hB (by rw [hl, hk]) hsrc (by rw [hl]; simpa using hfit) erow_one
  simp only [hl, hk, hcs] at h
  exact ⟨_, h, setRow_heap w g cs.toArray cs'.toArray _ _ hB, ⟨rfl, rfl, rfl, by simp, fun k _ hk => setRow_other w g k cs'.toArray (by simpa using hk)⟩, by simp⟩
theorem wpl_copy_run {P : Program} (w : World) {ops : Array Oper} {rest : List Oper} {o : Oper} {a : Act} {Q : Exit → Act → World → Prop} (hgd : Region.wanted o (yielded ops a.tmps) = true) (d s : Operand) (t t' : TypeId)
    (ho : o.op = .call { callee := .builtin .copy, args := #[d, s], argTypes := #[t, t'] }) (v u : Value) (hd : a.eval d = v) (hs : a.eval s = u) {v' : Value} {w' : World}
    (hr : (Builtin.copy_ #[t, t'] o.type #[v, u]).run P w = .ok v' w') (h : wpList P ops Q rest (a.put o.dst v') w') : wpList P ops Q (o :: rest) a w := by
  refine BigFrame.wpList_want hgd fun K hK => ?_
  unfold Oper.wp execOp
  simp only [ho, resolve, invoke, builtin, Sem.run_bind, Sem.run_pure, Result.andThen_ok, List.map_toArray, List.map_cons, List.map_nil, hd, hs, hr]
  exact hK _ _ h
theorem step_copy_run {P : Program} {w : World} {ops : Array Oper} {o : Oper} {a : Act} {K : Act → World → Prop} {Q : Exit → Act → World → Prop} {E : Prop} (hgd : Region.wanted o (yielded ops a.tmps) = true) (d s : Operand) (t t' : TypeId)
    (ho : o.op = .call { callee := .builtin .copy, args := #[d, s], argTypes := #[t, t'] }) (v u : Value) (hd : a.eval d = v) (hs : a.eval s = u) {v' : Value} {w' : World}
    (hr : ∀ ty, (Builtin.copy_ #[t, t'] ty #[v, u]).run P w = .ok v' w') (h : K (a.put o.dst v') w') : if Region.wanted o (yielded ops a.tmps) = true then Oper.wp P o a w K Q else E := by
  rw [if_pos hgd]
  unfold Oper.wp execOp
  simp only [ho, resolve, invoke, builtin, Sem.run_bind, Sem.run_pure, Result.andThen_ok, List.map_toArray, List.map_cons, List.map_nil, hd, hs, hr]
  exact h
/-- the row behind the first copy, and behind the second -/
theorem row_shift {cur : List Value} {es : List EN} {n i : Nat} (hn : es.length = n) (hi : i < n) (ht : cur.take (n * 2) = erows es) (hl : (n + 1) * 2 ≤ cur.length) (x : EN) :
    (cur.take ((i + 1) * 2) ++ erows (es.drop i) ++ cur.drop ((n + 1) * 2)).take (i * 2) ++ erows [x] ++ (cur.take ((i + 1) * 2) ++ erows (es.drop i) ++ cur.drop ((n + 1) * 2)).drop (i * 2 + 1 * 2)
      = erows (es.take i ++ x :: es.drop i) ++ cur.drop ((n + 1) * 2) := by
  have hlt : (cur.take ((i + 1) * 2)).length = (i + 1) * 2 := by rw [List.length_take]; omega
  have e1 : (cur.take ((i + 1) * 2) ++ erows (es.drop i) ++ cur.drop ((n + 1) * 2)).take (i * 2) = erows (es.take i) := by
    rw [List.append_assoc, List.take_append_of_le_length (by omega), List.take_take, Nat.min_eq_left (by omega)]
    have h2 : cur.take (i * 2) = (cur.take (n * 2)).take (i * 2) := by rw [List.take_take, Nat.min_eq_left (by omega)]
    rw [h2, ht]
    have h3 : erows es = erows (es.take i) ++ erows (es.drop i) := by rw [← erows_append, List.take_append_drop]
    rw [h3, List.take_append_of_le_length (by rw [erows_length, List.length_take]; omega), List.take_of_length_le (by rw [erows_length, List.length_take]; omega)]
  have e2 : (cur.take ((i + 1) * 2) ++ erows (es.drop i) ++ cur.drop ((n + 1) * 2)).drop (i * 2 + 1 * 2) = erows (es.drop i) ++ cur.drop ((n + 1) * 2) := by
    rw [List.append_assoc, List.drop_append, hlt, show i * 2 + 1 * 2 - (i + 1) * 2 = 0 by omega, List.drop_zero, List.drop_eq_nil_of_le (by omega), List.nil_append]
  rw [e1, e2, show es.take i ++ x :: es.drop i = es.take i ++ ([x] ++ es.drop i) from rfl, erows_append, erows_append]
  simp only [List.append_assoc]
theorem drop_cells {w : World} {g : Nat} {cs : List Value} {t : TypeId} {es : List EN} {n i : Nat} (hB : Blk w g t cs) (ht : cs.take (n * 2) = erows es) (hn : es.length = n) (hi : i ≤ n) : ∀ j v, (erows (es.drop i))[j]? = some v → w.cell? ((⟨g, i * 2, none⟩ : Addr).add j) = some v := by
  intro j v hj
  have h3 : erows es = erows (es.take i) ++ erows (es.drop i) := by rw [← erows_append, List.take_append_drop]
  have hjl : j < (n - i) * 2 := by have := (List.getElem?_eq_some_iff.1 hj).1; rw [erows_length, List.length_drop] at this; omega
  have hadd : (⟨g, i * 2, none⟩ : Addr).add j = ⟨g, i * 2 + j, none⟩ := by unfold Addr.add; split <;> simp_all
  rw [hadd, hB.cell]
  have h4 : cs[i * 2 + j]? = (cs.take (n * 2))[i * 2 + j]? := by rw [List.getElem?_take, if_pos (by omega)]
  rw [h4, ht, h3, List.getElem?_append_right (by rw [erows_length, List.length_take]; omega), erows_length, List.length_take, show i * 2 + j - min i es.length * 2 = j by omega]
  exact hj
set_option maxRecDepth 100000 in
set_option maxHeartbeats 4000000 in
/-- there is room: in the row itself -/
theorem insert_in (base g n c i vb : Nat) (es : List EN) (x : EN) (cur : Array Value) (w : World) (hb : base ≤ g) (hg : Blk w g 32 cur.toList) (hs : cur.size = c * 2) (ht : cur.toList.take (n * 2) = erows es) (hn : es.length = n) (hi : i < n) (hroom : n + 1 ≤ c) (hc : c ≤ maxLen) (hn9 : n ≤ 1000)
    (hne : vb ≠ g) (hv : Blk w vb 32 [.string x.n, .int .i64 x.i]) :
    Calls Try.prog 39 #[.slice (some ⟨g, 0, none⟩) n c, .int .i64 (i : Int), .slice (some ⟨vb, 0, none⟩) 1 1] w fun e w' =>
      e = .returned (.slice (some ⟨g, 0, none⟩) (n + 1) c) ∧ OwnE w' base (.slice (some ⟨g, 0, none⟩) (n + 1) c) (es.take i ++ x :: es.drop i) ∧ w.grownBy w' (some g) := by
  have hlen : cur.toList.length = c * 2 := by simpa using hs
  have hov : ∀ lb cb, (callFunc 60 #[.slice (some ⟨vb, 0, none⟩) 1 1, .slice (some ⟨g, (i + 1) * 2, none⟩) lb cb]).run Try.prog w = .ok (.value (.bool false)) w := fun lb cb => by
    have hsa : w.shape? vb = some (32, 2) := by unfold World.shape?; unfold Blk at hv; rw [hv]; rfl
    have hsb : w.shape? g = some (32, c * 2) := by unfold World.shape?; unfold Blk at hg; rw [hg]; simp [hs]
    rw [run_callFunc_extern Try.func60 (by kernel_rfl) (by kernel_rfl) (by kernel_rfl) (e := Extern.SlicesOverlaps.overlaps #[22, 22] #[4]) (by kernel_rfl),
      Lib.run_overlaps_apart w 22 4 32 Try.underlying22 2 sizeEnt ⟨vb, 0, none⟩ ⟨g, (i + 1) * 2, none⟩ 1 1 lb cb hne _ _ _ _ hsa hsb (by omega) (hv.free 0) (hv.free 2)]
    rfl
  obtain ⟨cs1, hcs1⟩ : ∃ cs1, cs1 = cur.toList.take ((i + 1) * 2) ++ erows (es.drop i) ++ cur.toList.drop ((n + 1) * 2) := ⟨_, rfl⟩
  have cp1 : ∃ w', (∀ ty, (Builtin.copy_ #[22, 22] ty #[.slice (some ⟨g, (i + 1) * 2, none⟩) (n + 1 - (i + 1)) (c - (i + 1)), .slice (some ⟨g, i * 2, none⟩) (n + 1 - i) (c - i)]).run Try.prog w.drew = .ok (goInt (n - i : Nat)) w') ∧ Blk w' g 32 cs1 ∧ w.drew.grownBy w' (some g) ∧ w'.heap.size = w.drew.heap.size :=
    copy_ents (L := es.drop i) hg.drew (by simp only [Nat.min_def]; split <;> omega) (by rw [List.length_drop, hn]) (drop_cells hg.drew ht hn (Nat.le_of_lt hi)) (by rw [hlen]; omega) cs1 (by rw [hcs1, show (i + 1) * 2 + (n - i) * 2 = (n + 1) * 2 by omega])
  have hl1 : cs1.length = c * 2 := by
    rw [hcs1, List.length_append, List.length_append, List.length_take, erows_length, List.length_drop, List.length_drop, hn, hlen]
    omega
  have cp2 : ∀ w1, Blk w1 g 32 cs1 → Blk w1 vb 32 [.string x.n, .int .i64 x.i] → ∃ w', (∀ ty, (Builtin.copy_ #[22, 22] ty #[.slice (some ⟨g, i * 2, none⟩) (n + 1 - i) (c - i), .slice (some ⟨vb, 0, none⟩) 1 1]).run Try.prog w1 = .ok (goInt (1 : Nat)) w') ∧ Blk w' g 32 (erows (es.take i ++ x :: es.drop i) ++ cur.toList.drop ((n + 1) * 2)) ∧ w1.grownBy w' (some g) ∧ w'.heap.size = w1.heap.size := fun w1 h1 h2 =>
    copy_ents (L := [x]) (k := 1) h1 (by simp only [Nat.min_def]; split <;> omega) rfl (fun j v hj => by
      have hadd : (⟨vb, 0, none⟩ : Addr).add j = ⟨vb, j, none⟩ := by unfold Addr.add; split <;> simp_all
      rw [hadd, h2.cell]
      exact hj) (by rw [hl1]; omega) _ (by rw [hcs1]; exact row_shift hn hi ht (by rw [hlen]; omega) x)
  have hz2 : ¬ ((i : Int) = (n : Int)) := by omega
  have hw1 : IntKind.i64.wrap ((i : Int) + 1) = (i : Int) + 1 := by rw [IntKind.wrap_i64]; omega
  have hw2 : IntKind.i64.wrap ((n : Int) + 1) = (n : Int) + 1 := by rw [IntKind.wrap_i64]; omega
  have hb1 : (0 : Int) ≤ (i : Int) + 1 := by omega
  have hin : i ≤ n := by omega
  have htn : ((i : Int) + 1).toNat = i + 1 := by omega
  have hb2 : ¬ (c = i + 1) := by omega
  have hb3 : (i : Int) ≤ (n : Int) + 1 := by omega
  have hb4 : ¬ (c = i) := by omega
  obtain ⟨w1, r1, B1, G1, e1⟩ := cp1
  obtain ⟨w2, r2, B2, G2, e2⟩ := cp2 w1 B1 (hv.drew.grown G1 (by simpa using hne))
  have R1 := Lib.hid r1
  have R2 := Lib.hid r2
  have HW : Hid (OwnE w2 base (.slice (some ⟨g, 0, none⟩) (n + 1) c) (es.take i ++ x :: es.drop i) ∧ w.grownBy w2 (some g)) := Lib.hid (by
    have hl : (es.take i ++ x :: es.drop i).length = n + 1 := by rw [List.length_append, List.length_take, List.length_cons, List.length_drop]; omega
    refine ⟨?_, World.grownBy.trans (b := w.drew) ⟨rfl, rfl, rfl, Nat.le_refl _, fun _ _ _ => rfl⟩ (G1.trans G2)⟩
    unfold OwnE
    rw [hl]
    refine ⟨by rw [erows_length, hl], .inr ⟨g, c, _, rfl, hb, B2, hroom, hc, ?_, ?_⟩⟩
    · rw [List.size_toArray, List.length_append, erows_length, hl, List.length_drop, hlen]
      omega
    · rw [List.toList_toArray, List.take_append_of_le_length (by rw [erows_length, hl]; exact Nat.le_refl _), List.take_of_length_le (by rw [erows_length, hl]; exact Nat.le_refl _)])
  clear cp2 hg hv hlen ht hn hcs1 hl1 hs r1 r2 B1 G1 e1 B2 G2 e2
  go_enter Try.func39, Try.ntmps39
  go_wp2_with (simp only [hov])
  clear hov
  refine wp_region_held_drew (S := (fun _ => True)) (by kernel_rfl) trivial (fun _ => ?_)
  refine wpAnyH_take (i := 0) (v := .slice (some ⟨g, 0, none⟩) (n + 1) c) rfl (by kernel_rfl) (by kernel_rfl) (by kernel_rfl) (fun _ _ _ h => h) (Or.inl ⟨by kernel_rfl, fun w _ => by go_simp⟩) trivial ?_
  simp only [Act.put, List.getElem_toArray, List.getElem_cons_zero, List.setIfInBounds_toArray, List.set_cons_zero, List.set_cons_succ]
  refine wpAnyH_take (i := 1) (v := .int .i64 (i : Int)) rfl (by kernel_rfl) (by kernel_rfl) (by kernel_rfl) (fun _ _ _ h => h) (Or.inl ⟨by kernel_rfl, fun w _ => by go_simp⟩) trivial ?_
  simp only [Act.put, List.getElem_toArray, List.getElem_cons_zero, List.getElem_cons_succ, List.setIfInBounds_toArray, List.set_cons_zero, List.set_cons_succ]
  refine wpAnyH_take (i := 2) (v := .int .i64 1) rfl (by kernel_rfl) (by kernel_rfl) (by kernel_rfl) (fun _ _ _ h => h) (Or.inl ⟨by kernel_rfl, fun w _ => by go_simp⟩) trivial ?_
  simp only [Act.put, List.getElem_toArray, List.getElem_cons_zero, List.getElem_cons_succ, List.setIfInBounds_toArray, List.set_cons_zero, List.set_cons_succ]
  refine wpAnyH_take (i := 3) (v := .int .i64 ((i : Int) + 1)) rfl (by kernel_rfl) (by kernel_rfl) (by kernel_rfl) (fun _ _ _ h => h) (Or.inl ⟨by kernel_rfl, fun w _ => by go_simp⟩) trivial ?_
  simp only [Act.put, List.getElem_toArray, List.getElem_cons_zero, List.getElem_cons_succ, List.setIfInBounds_toArray, List.set_cons_zero, List.set_cons_succ]
  refine wpAnyH_take (i := 4) (v := .slice (some ⟨g, (i + 1) * 2, none⟩) (n + 1 - (i + 1)) (c - (i + 1))) rfl (by kernel_rfl) (by kernel_rfl) (by kernel_rfl) (fun _ _ _ h => h) (Or.inl ⟨by kernel_rfl, fun w _ => by go_simp⟩) trivial ?_
  simp only [Act.put, List.getElem_toArray, List.getElem_cons_zero, List.getElem_cons_succ, List.setIfInBounds_toArray, List.set_cons_zero, List.set_cons_succ]
  refine wpAnyH_take (i := 5) (v := .slice (some ⟨g, 0, none⟩) (n + 1) c) rfl (by kernel_rfl) (by kernel_rfl) (by kernel_rfl) (fun _ _ _ h => h) (Or.inl ⟨by kernel_rfl, fun w _ => by go_simp⟩) trivial ?_
  simp only [Act.put, List.getElem_toArray, List.getElem_cons_zero, List.getElem_cons_succ, List.setIfInBounds_toArray, List.set_cons_zero, List.set_cons_succ]
  refine wpAnyH_take (i := 6) (v := .int .i64 (i : Int)) rfl (by kernel_rfl) (by kernel_rfl) (by kernel_rfl) (fun _ _ _ h => h) (Or.inl ⟨by kernel_rfl, fun w _ => by go_simp⟩) trivial ?_
  simp only [Act.put, List.getElem_toArray, List.getElem_cons_zero, List.getElem_cons_succ, List.setIfInBounds_toArray, List.set_cons_zero, List.set_cons_succ]
  refine wpAnyH_take (i := 7) (v := .slice (some ⟨g, i * 2, none⟩) (n + 1 - i) (c - i)) rfl (by kernel_rfl) (by kernel_rfl) (by kernel_rfl) (fun _ _ _ h => h) (Or.inl ⟨by kernel_rfl, fun w _ => by go_simp⟩) trivial ?_
  simp only [Act.put, List.getElem_toArray, List.getElem_cons_zero, List.getElem_cons_succ, List.setIfInBounds_toArray, List.set_cons_zero, List.set_cons_succ]
  refine wpAnyH_ready (rs := [8]) (by kernel_rfl) (by simp) (AllReadyH.cons rfl (fun K hK => ?_) AllReadyH.nil)
  refine step_copy_run (by kernel_rfl) (.tmp 73) (.tmp 76) 22 22 (by kernel_rfl) _ _ (by kernel_rfl) (by kernel_rfl) R1.out ?_
  refine hK _ _ trivial (fun _ => ?_)
  clear hK K
  refine wpAnyH_done (by kernel_rfl) ?_ _
  have r2e := R2.out 3
  go_simp
  go_wp2_with fail
  go_ret
  exact ⟨rfl, HW.out.1, HW.out.2⟩
/-- the new row behind both copies -/
theorem row_new {T Z : List Value} {es : List EN} {n i : Nat} (hn : es.length = n) (hi : i ≤ n) (hT : T = erows (es.take i)) (hZ : 2 ≤ Z.length) (x : EN) :
    ∃ cs1, (T ++ Z).take (i * 2) ++ erows [x] ++ (T ++ Z).drop (i * 2 + 1 * 2) = cs1 ∧ cs1.length = i * 2 + Z.length ∧ (i * 2 + (n + 1 - i) * 2 ≤ i * 2 + Z.length → ∃ cs2, cs1.take ((i + 1) * 2) ++ erows (es.drop i) ++ cs1.drop ((i + 1) * 2 + (n - i) * 2) = cs2 ∧ cs2.length = i * 2 + Z.length ∧ cs2.take ((n + 1) * 2) = erows (es.take i ++ x :: es.drop i)) := by
  have hTl : T.length = i * 2 := by rw [hT, erows_length, List.length_take]; omega
  have hX : (erows [x]).length = 2 := rfl
  refine ⟨_, rfl, ?_, fun hfit => ⟨_, rfl, ?_, ?_⟩⟩
  · simp only [List.length_append, List.length_take, List.length_drop, hX, hTl]
    omega
  · simp only [List.length_append, List.length_take, List.length_drop, hX, hTl, erows_length, hn]
    omega
  · have e0 : (T ++ Z).take (i * 2) = T := by rw [List.take_append_of_le_length (by omega), List.take_of_length_le (by omega)]
    rw [e0]
    have e1 : (T ++ erows [x] ++ (T ++ Z).drop (i * 2 + 1 * 2)).take ((i + 1) * 2) = T ++ erows [x] := by
      rw [List.take_append_of_le_length (by rw [List.length_append, hX]; omega), List.take_of_length_le (by rw [List.length_append, hX]; omega)]
    rw [e1, List.take_append_of_le_length (by simp only [List.length_append, hX, hTl, erows_length, List.length_drop, hn]; omega), List.take_of_length_le (by simp only [List.length_append, hX, hTl, erows_length, List.length_drop, hn]; omega)]
    rw [show es.take i ++ x :: es.drop i = es.take i ++ ([x] ++ es.drop i) from rfl, erows_append, erows_append, hT]
    simp only [List.append_assoc]
set_option maxRecDepth 100000 in
set_option maxHeartbeats 4000000 in
/-- there is no room: in a new row -/
theorem insert_new (base g n c i vb : Nat) (es : List EN) (x : EN) (cur : Array Value) (w : World) (hb : base ≤ w.heap.size) (hg : Blk w g 32 cur.toList) (hs : cur.size = c * 2) (ht : cur.toList.take (n * 2) = erows es) (hn : es.length = n) (hi : i < n) (hroom : c < n + 1) (hnc : n ≤ c) (hn9 : n ≤ 1000)
    (hv : Blk w vb 32 [.string x.n, .int .i64 x.i]) :
    Calls Try.prog 39 #[.slice (some ⟨g, 0, none⟩) n c, .int .i64 (i : Int), .slice (some ⟨vb, 0, none⟩) 1 1] w fun e w' =>
      ∃ A c', e = .returned (.slice A (n + 1) c') ∧ OwnE w' base (.slice A (n + 1) c') (es.take i ++ x :: es.drop i) ∧ w.grownBy w' none := by
  have hlen : cur.toList.length = c * 2 := by simpa using hs
  obtain ⟨ti, hti, hz, hts, hby⟩ := infoE'
  obtain ⟨k, hk⟩ : ∃ k, n + 1 = i + k := ⟨n + 1 - i, by omega⟩
  have hold : (Builtin.firstCells ti.size i (.slice (some ⟨g, 0, none⟩) i c)).run Try.prog w.drew = .ok (erows (es.take i)).toArray w.drew := by
    rw [hts]
    refine run_firstCells_some w.drew 2 i ⟨g, 0, none⟩ i c _ (by rw [erows_length, List.length_take]; omega) (fun j v hj => ?_)
    have hadd : (⟨g, 0, none⟩ : Addr).add j = ⟨g, j, none⟩ := by unfold Addr.add; split <;> simp_all
    have hjl : j < i * 2 := by have := (List.getElem?_eq_some_iff.1 hj).1; rw [erows_length, List.length_take] at this; omega
    rw [hadd, hg.drew.cell]
    have h4 : cur.toList[j]? = (cur.toList.take (n * 2))[j]? := by rw [List.getElem?_take, if_pos (by omega)]
    have h3 : erows es = erows (es.take i) ++ erows (es.drop i) := by rw [← erows_append, List.take_append_drop]
    rw [h4, ht, h3, List.getElem?_append_left (by rw [erows_length, List.length_take]; omega)]
    exact hj
  have hap := fun ty => Lib.run_append_grow_zeros w 22 3 ty 32 ti _ .i64 .i64 Try.underlying22 Try.underlying3 hti hz (some ⟨g, 0, none⟩) i c _ hold k (by omega) (by omega) (by omega) (by omega) (by rw [hby]; omega) (by rw [hby]; exact growslice_fits (by omega) (by omega))
  have hc2 := grownCap_ge w (i + k) c 32
  have hc2m := grownCap_le_maxLen w (i + k) c 32 (by simp only [maxLen]; omega)
  obtain ⟨c2, hcc⟩ : ∃ c2, c2 = grownCap w (i + k) c 32 := ⟨_, rfl⟩
  rw [← hcc] at hap hc2 hc2m
  have hsum : i * 2 + (c2 - i) * 2 = c2 * 2 := by omega
  obtain ⟨g2, hg2⟩ : ∃ g2, g2 = w.heap.size := ⟨_, rfl⟩
  rw [← hg2] at hap hb
  obtain ⟨Z, hZ⟩ : ∃ Z, Z = (Builtin.zeroCells (Value.agg #[.string ByteArray.empty, .int .i64 0]).cells k ++ Builtin.zeroCells (Value.agg #[.string ByteArray.empty, .int .i64 0]).cells (c2 - (i + k))).toList := ⟨_, rfl⟩
  have hZl : Z.length = (c2 - i) * 2 := by
    rw [hZ, Array.length_toList, Array.size_append, size_zeroCells, size_zeroCells]
    show k * 2 + (c2 - (i + k)) * 2 = _
    omega
  have hTZ : (erows (es.take i)).toArray ++ Builtin.zeroCells (Value.agg #[.string ByteArray.empty, .int .i64 0]).cells k ++ Builtin.zeroCells (Value.agg #[.string ByteArray.empty, .int .i64 0]).cells (c2 - (i + k)) = (erows (es.take i) ++ Z).toArray := by
    apply Array.toList_inj.1
    rw [hZ]
    simp
  obtain ⟨w1, hw1⟩ : ∃ w1, w1 = w.drew.alloc (.cells (erows (es.take i) ++ Z).toArray 32) := ⟨_, rfl⟩
  rw [hTZ, ← hw1] at hap
  have B1 : Blk w1 g2 32 (erows (es.take i) ++ Z) := by
    rw [hw1, hg2]
    exact Blk.new w.drew _ _
  have G1 : w.grownBy w1 none := by
    rw [hw1]
    exact World.grownBy.trans (b := w.drew) ⟨rfl, rfl, rfl, Nat.le_refl _, fun _ _ _ => rfl⟩ (World.grownBy_alloc w.drew _ none)
  obtain ⟨cs1, h1, hl1, hx⟩ := row_new hn (Nat.le_of_lt hi) rfl (by rw [hZl]; omega : 2 ≤ Z.length) x
  obtain ⟨cs2, h2, hl2, ht2⟩ := hx (by rw [hZl]; omega)
  have hv1 := hv.grown G1 (by simp)
  have hgg : g < w.heap.size := hg.lt
  have hvg : vb < w.heap.size := hv.lt
  obtain ⟨w2, r2, B2, G2, e2⟩ := copy_ents (w := w1) (g := g2) (o := i * 2) (dLen := n + 1 - i) (dCap := c2 - i) (a := ⟨vb, 0, none⟩) (sLen := 1) (sCap := 1) (L := [x]) (k := 1) B1 (by simp only [Nat.min_def]; split <;> omega) rfl (fun j v hj => by
      have hadd : (⟨vb, 0, none⟩ : Addr).add j = ⟨vb, j, none⟩ := by unfold Addr.add; split <;> simp_all
      rw [hadd, hv1.cell]
      exact hj) (by rw [List.length_append, hZl, erows_length, List.length_take]; omega) cs1 h1
  have hg2' := (hg.grown G1 (by simp)).grown G2 (by simp only [ne_eq, Option.some.injEq]; omega)
  obtain ⟨w3, r3, B3, G3, e3⟩ := copy_ents (w := w2.drew) (g := g2) (o := (i + 1) * 2) (dLen := n + 1 - (i + 1)) (dCap := c2 - (i + 1)) (a := ⟨g, i * 2, none⟩) (sLen := n - i) (sCap := c - i) (L := es.drop i) (k := n - i) B2.drew (by simp only [Nat.min_def]; split <;> omega) (by rw [List.length_drop, hn]) (drop_cells hg2'.drew ht hn (Nat.le_of_lt hi)) (by rw [hl1, hZl]; omega) cs2 h2
  have HA := Lib.hid hap
  have R2 := Lib.hid r2
  have R3 := Lib.hid r3
  have HW : Hid (OwnE w3 base (.slice (some ⟨g2, 0, none⟩) (n + 1) c2) (es.take i ++ x :: es.drop i) ∧ w.grownBy w3 none) := Lib.hid (by
    have hl : (es.take i ++ x :: es.drop i).length = n + 1 := by rw [List.length_append, List.length_take, List.length_cons, List.length_drop]; omega
    refine ⟨?_, ?_⟩
    · unfold OwnE
      rw [hl]
      refine ⟨by rw [erows_length, hl], .inr ⟨g2, c2, _, rfl, hb, B3, by omega, hc2m, ?_, ?_⟩⟩
      · rw [List.size_toArray, hl2, hZl]
        exact hsum
      · rw [List.toList_toArray]
        exact ht2
    · have G4 : w1.grownBy w3 (some g2) := (World.grownBy.trans (b := w2.drew) (World.grownBy.trans (b := w2) G2 ⟨rfl, rfl, rfl, Nat.le_refl _, fun _ _ _ => rfl⟩) G3)
      exact ⟨G4.os.trans G1.os, G4.tape.trans G1.tape, G4.output.trans G1.output, Nat.le_trans G1.size G4.size, fun q hq _ => (G4.block q (Nat.lt_of_lt_of_le hq G1.size) (by simp only [ne_eq, Option.some.injEq]; omega)).trans (G1.block q hq (by simp))⟩)
  have hz2 : ¬ ((i : Int) = (n : Int)) := by omega
  have hw1' : IntKind.i64.wrap ((i : Int) + 1) = (i : Int) + 1 := by rw [IntKind.wrap_i64]; omega
  have hw2 : IntKind.i64.wrap ((n : Int) + 1) = (n : Int) + 1 := by rw [IntKind.wrap_i64]; omega
  have hki : (n : Int) + 1 - (i : Int) = (k : Int) := by omega
  have hki2 : i + k = n + 1 := by omega
  have hb1 : (0 : Int) ≤ (i : Int) + 1 := by omega
  have hin : i ≤ n := by omega
  have htn : ((i : Int) + 1).toNat = i + 1 := by omega
  have hb2 : ¬ (c2 = i + 1) := by omega
  have hb3 : (i : Int) ≤ (n : Int) + 1 := by omega
  have hb4 : ¬ (c = i) := by omega
  have hb5 : ¬ (c2 = i) := by omega
  have hb6 : n + 1 ≤ c2 := by omega
  have hb7 : i ≤ c := by omega
  have hb8 : (c : Int) < (n : Int) + 1 := by omega
  rw [hki2] at HA
  clear hki2 hk hsum hap r2 r3 hg hv hlen ht hn hs hold hcc hg2 hZ hZl hTZ hw1 B1 G1 h1 hl1 hx h2 hl2 ht2 hv1 hg2' B2 B3 G2 G3 e2 e3 hc2 hc2m hti hz hts hby
  go_enter Try.func39, Try.ntmps39
  have r2e := R2.out 3
  go_wp2_with (at_builtin; refine Lib.wpList_append_run _ rfl _ _ _ _ rfl _ _ rfl rfl _ _ (HA.out _) ?_)
  refine wp_region_held_drew (S := (fun _ => True)) (by kernel_rfl) trivial (fun _ => ?_)
  refine wpAnyH_take (i := 0) (v := .slice (some ⟨g2, 0, none⟩) (n + 1) c2) rfl (by kernel_rfl) (by kernel_rfl) (by kernel_rfl) (fun _ _ _ h => h) (Or.inl ⟨by kernel_rfl, fun w _ => by go_simp⟩) trivial ?_
  simp only [Act.put, List.getElem_toArray, List.getElem_cons_zero, List.setIfInBounds_toArray, List.set_cons_zero, List.set_cons_succ]
  refine wpAnyH_take (i := 1) (v := .int .i64 (i : Int)) rfl (by kernel_rfl) (by kernel_rfl) (by kernel_rfl) (fun _ _ _ h => h) (Or.inl ⟨by kernel_rfl, fun w _ => by go_simp⟩) trivial ?_
  simp only [Act.put, List.getElem_toArray, List.getElem_cons_zero, List.getElem_cons_succ, List.setIfInBounds_toArray, List.set_cons_zero, List.set_cons_succ]
  refine wpAnyH_take (i := 2) (v := .int .i64 1) rfl (by kernel_rfl) (by kernel_rfl) (by kernel_rfl) (fun _ _ _ h => h) (Or.inl ⟨by kernel_rfl, fun w _ => by go_simp⟩) trivial ?_
  simp only [Act.put, List.getElem_toArray, List.getElem_cons_zero, List.getElem_cons_succ, List.setIfInBounds_toArray, List.set_cons_zero, List.set_cons_succ]
  refine wpAnyH_take (i := 3) (v := .int .i64 ((i : Int) + 1)) rfl (by kernel_rfl) (by kernel_rfl) (by kernel_rfl) (fun _ _ _ h => h) (Or.inl ⟨by kernel_rfl, fun w _ => by go_simp⟩) trivial ?_
  simp only [Act.put, List.getElem_toArray, List.getElem_cons_zero, List.getElem_cons_succ, List.setIfInBounds_toArray, List.set_cons_zero, List.set_cons_succ]
  refine wpAnyH_take (i := 4) (v := .slice (some ⟨g2, (i + 1) * 2, none⟩) (n + 1 - (i + 1)) (c2 - (i + 1))) rfl (by kernel_rfl) (by kernel_rfl) (by kernel_rfl) (fun _ _ _ h => h) (Or.inl ⟨by kernel_rfl, fun w _ => by go_simp⟩) trivial ?_
  simp only [Act.put, List.getElem_toArray, List.getElem_cons_zero, List.getElem_cons_succ, List.setIfInBounds_toArray, List.set_cons_zero, List.set_cons_succ]
  refine wpAnyH_take (i := 5) (v := .slice (some ⟨g, 0, none⟩) n c) rfl (by kernel_rfl) (by kernel_rfl) (by kernel_rfl) (fun _ _ _ h => h) (Or.inl ⟨by kernel_rfl, fun w _ => by go_simp⟩) trivial ?_
  simp only [Act.put, List.getElem_toArray, List.getElem_cons_zero, List.getElem_cons_succ, List.setIfInBounds_toArray, List.set_cons_zero, List.set_cons_succ]
  refine wpAnyH_take (i := 6) (v := .int .i64 (i : Int)) rfl (by kernel_rfl) (by kernel_rfl) (by kernel_rfl) (fun _ _ _ h => h) (Or.inl ⟨by kernel_rfl, fun w _ => by go_simp⟩) trivial ?_
  simp only [Act.put, List.getElem_toArray, List.getElem_cons_zero, List.getElem_cons_succ, List.setIfInBounds_toArray, List.set_cons_zero, List.set_cons_succ]
  refine wpAnyH_take (i := 7) (v := .slice (some ⟨g, i * 2, none⟩) (n - i) (c - i)) rfl (by kernel_rfl) (by kernel_rfl) (by kernel_rfl) (fun _ _ _ h => h) (Or.inl ⟨by kernel_rfl, fun w _ => by go_simp⟩) trivial ?_
  simp only [Act.put, List.getElem_toArray, List.getElem_cons_zero, List.getElem_cons_succ, List.setIfInBounds_toArray, List.set_cons_zero, List.set_cons_succ]
  refine wpAnyH_ready (rs := [8]) (by kernel_rfl) (by simp) (AllReadyH.cons rfl (fun K hK => ?_) AllReadyH.nil)
  refine step_copy_run (by kernel_rfl) (.tmp 50) (.tmp 53) 22 22 (by kernel_rfl) _ _ (by kernel_rfl) (by kernel_rfl) R3.out ?_
  refine hK _ _ trivial (fun _ => ?_)
  clear hK K
  refine wpAnyH_done (by kernel_rfl) ?_ _
  go_simp
  go_wp2_with fail
  go_ret
  exact ⟨_, _, rfl, HW.out.1, HW.out.2⟩
set_option maxRecDepth 100000 in
set_option maxHeartbeats 4000000 in
/-- behind the last one -/
theorem insert_end (base vb : Nat) (A : Option Addr) (n c : Nat) (es : List EN) (x : EN) (w : World) (hb : base ≤ w.heap.size) (ho : OwnE w base (.slice A n c) es) (hn : es.length = n) (hn9 : n ≤ 1000)
    (hv : Blk w vb 32 [.string x.n, .int .i64 x.i]) :
    Calls Try.prog 39 #[.slice A n c, .int .i64 (n : Int), .slice (some ⟨vb, 0, none⟩) 1 1] w fun e w' =>
      ∃ A' c', e = .returned (.slice A' (n + 1) c') ∧ OwnE w' base (.slice A' (n + 1) c') (es ++ [x]) ∧ w.grownBy w' (Value.slice A n c).ownBlock := by
  obtain ⟨ti, hti, hz, hts, hby⟩ := infoE'
  have HO := Lib.hid ho
  obtain ⟨_, _, e1, hc1, hc2⟩ := ho.shape
  have e3 := (Value.slice.inj e1).2.2
  rw [← e3] at hc1 hc2
  have HN := Lib.hid hn
  rw [hn] at hc1
  have HR : Hid (Row w w.heap.size (some ⟨vb, 0, none⟩) (erows [x])) := Lib.hid (fun j u hu => ⟨_, rfl, hv.lt, by
    have hadd : (⟨vb, 0, none⟩ : Addr).add j = ⟨vb, j, none⟩ := add_zero' vb j
    rw [hadd, hv.cell]
    exact hu⟩)
  have hz' : Hid (A = none → n = 0 ∧ c = 0) := Lib.hid (fun hA => by
    rcases ho.2 with ⟨h1, h0⟩ | ⟨g, cap, cur, h1, _⟩
    · exact ⟨by omega, (Value.slice.inj h1).2.2⟩
    · rw [hA] at h1
      cases (Value.slice.inj h1).1)
  clear ho hn e1 e3 hv
  cases A with
  | none =>
    obtain ⟨rfl, rfl⟩ := hz'.out rfl
    go_enter Try.func39, Try.ntmps39
    go_wp2_with (at_builtin; (refine wpl_append_ents hti hz rfl hts hby rfl (.tmp 23) (.tmp 24) rfl HN.out rfl HO.out (some ⟨vb, 0, none⟩) 1 1 [x] rfl rfl _ HR.out (by omega) hb 1 rfl ?_); intro A4 c4 w4 O4 g4; have Q4 := Lib.hid O4; have T4 := Lib.hid g4; clear O4 g4)
    go_ret
    exact ⟨A4, c4, rfl, Q4.out, T4.out⟩
  | some p =>
    go_enter Try.func39, Try.ntmps39
    go_wp2_with (at_builtin; (refine wpl_append_ents hti hz rfl hts hby rfl (.tmp 23) (.tmp 24) rfl HN.out rfl HO.out (some ⟨vb, 0, none⟩) 1 1 [x] rfl rfl _ HR.out (by omega) hb (n + 1) rfl ?_); intro A4 c4 w4 O4 g4; have Q4 := Lib.hid O4; have T4 := Lib.hid g4; clear O4 g4)
    all_goals
      go_ret
      exact ⟨A4, c4, rfl, Q4.out, T4.out⟩
/-- .. wherever -/
theorem insert_any (base vb i : Nat) (A : Option Addr) (n c : Nat) (es : List EN) (x : EN) (w : World) (hb : base ≤ w.heap.size) (ho : OwnE w base (.slice A n c) es) (hn : es.length = n) (hi : i ≤ n) (hn9 : n ≤ 1000)
    (hv : Blk w vb 32 [.string x.n, .int .i64 x.i]) (hne : some vb ≠ (Value.slice A n c).ownBlock) :
    Calls Try.prog 39 #[.slice A n c, .int .i64 (i : Int), .slice (some ⟨vb, 0, none⟩) 1 1] w fun e w' =>
      ∃ A' c', e = .returned (.slice A' (n + 1) c') ∧ OwnE w' base (.slice A' (n + 1) c') (es.take i ++ x :: es.drop i) ∧ w.grownBy w' (Value.slice A n c).ownBlock := by
  by_cases he : i = n
  · subst he
    rw [List.take_of_length_le (by omega), List.drop_eq_nil_of_le (by omega)]
    exact insert_end base vb A i c es x w hb ho hn hn9 hv
  · have ho' := ho
    unfold OwnE at ho'
    rw [hn] at ho'
    rcases ho'.2 with ⟨h1, h0⟩ | ⟨g, cap, cur, h1, hbg, hg, hnc, hcap, hsz, ht⟩
    · omega
    · cases h1
      by_cases hr : n + 1 ≤ c
      · refine (insert_in base g n c i vb es x cur w hbg (by unfold Blk; rw [Array.toArray_toList]; exact hg) hsz ht hn (by omega) hr hcap hn9 (fun e => hne (by rw [e]; rfl)) hv).mono ?_
        rintro e w' ⟨rfl, h1, h2⟩
        exact ⟨_, _, rfl, h1, h2⟩
      · refine (insert_new base g n c i vb es x cur w hb (by unfold Blk; rw [Array.toArray_toList]; exact hg) hsz ht hn (by omega) (by omega) hnc hn9 hv).mono ?_
        rintro e w' ⟨A', c', rfl, h1, h2⟩
        exact ⟨A', c', rfl, h1, ⟨h2.os, h2.tape, h2.output, h2.size, fun k hk _ => h2.block k hk (by simp)⟩⟩
end Go.Proofs.Ytkpojlnfagonbaa

