/- The walk of NodeCommits: it answers true, and changes nothing that was there. No condition. -/
import Derived.Test.YtdmganpblkepfaaNodeApart
namespace Go.Proofs.Ytdmganpblkepfaa
open Go.RowKit
/-- a commit that was written is read as it was -/
theorem read_cb {e s : Nat} {L : List UInt8} (he : e < 18446744073709551616) (hs : s < 4294967296) : le ((cb e L s).take 8) = e ∧ (cb e L s).drop 12 = L ∧ le (((cb e L s).drop 8).take 4) = s := by
  have d8 : (cb e L s).drop 8 = numB 4 s ++ L := by unfold cb; rw [List.drop_append_of_le_length (by rw [numB_length]; omega), List.drop_of_length_le (by rw [numB_length]; omega), List.nil_append]
  refine ⟨?_, ?_, ?_⟩
  · unfold cb
    rw [List.take_append_of_le_length (by rw [numB_length]; omega), List.take_of_length_le (by rw [numB_length]; omega), le_numB]
    omega
  · rw [show 12 = 8 + 4 by rfl, ← List.drop_drop, d8, List.drop_append_of_le_length (by rw [numB_length]; omega), List.drop_of_length_le (by rw [numB_length]; omega), List.nil_append]
  · rw [d8, List.take_append_of_le_length (by rw [numB_length]; omega), List.take_of_length_le (by rw [numB_length]; omega), le_numB]
    omega
/-- .. and what was read is written as the same bytes -/
theorem cb_read {l : List UInt8} (h : l.length = 44) : cb (le (l.take 8)) (l.drop 12) (le ((l.drop 8).take 4)) = l := by
  have h1 := numB_le (l.take 8)
  have h2 := numB_le ((l.drop 8).take 4)
  rw [List.length_take, show min 8 l.length = 8 by omega] at h1
  rw [List.length_take, List.length_drop, show min 4 (l.length - 8) = 4 by omega] at h2
  unfold cb
  rw [h1, h2, show l.drop 12 = (l.drop 8).drop 4 by rw [List.drop_drop], List.take_append_drop, List.take_append_drop]
theorem le_lt_of {l : List UInt8} {n : Nat} (h : l.length ≤ n) : le l < 256 ^ n := Nat.lt_of_lt_of_le (le_lt l) (Nat.pow_le_pow_right (by omega) h)
theorem yields_strU {ops : Array Oper} {o : Oper} {a : Act} {S : World → Prop} {v : Value} {l : List UInt8} (x : Operand) (ho : o.op = .convert 23 9 x) (hgd : Region.wanted o (yielded ops a.tmps) = true)
    (hx : a.eval x = v) (u : ByteArray) (hu : u = ⟨l.toArray⟩) (hS : ∀ w, S w → Bytes w w.heap.size v l) : YieldsIf Try.prog ops S o (.string u) a :=
  .inl ⟨hgd, fun w hw => by
    unfold execOp
    simp only [ho, hx, Sem.run_bind, Sem.run_pure, Result.andThen_ok, str_of (hS w hw), hu]⟩
theorem yields_cellN {P : Program} {ops : Array Oper} {o : Oper} {a : Act} {S : World → Prop} {ty : TypeId} {p : Addr} {v : Value} (hag : ∀ w, (isAgg ty).run P w = .ok false w) (x : Operand) (ho : o.op = .load ty x) (hgd : Region.wanted o (yielded ops a.tmps) = true)
    (hx : a.eval x = .pointer (some p)) (hS : ∀ w, S w → w.cell? p = some v) : YieldsIf P ops S o v a :=
  .inl ⟨hgd, fun w hw => by
    have hs : (loadVar ty p).run P w = .ok v w := by
      simp [loadVar, Sem.run_bind, hag, run_load, hS w hw]
    unfold execOp
    simp only [ho, hx, Instr.loadAt, Instr.sureAddr, Sem.run_bind, Sem.run_pure, Result.andThen_ok, hs]⟩
theorem toBytes_append (a b : List UInt8) : (⟨(a ++ b).toArray⟩ : ByteArray) = ⟨a.toArray⟩ ++ ⟨b.toArray⟩ := by
  apply ByteArray.ext
  simp
set_option maxRecDepth 100000 in
set_option maxHeartbeats 8000000 in
theorem nodeCommits_any (u v : Value) (w : World) (hc1 : ∃ e L s, IsCommit u e L s) (hn : ∃ l, Bytes w w.heap.size v l) :
    Calls Try.prog 5 #[u, v] w fun e w' => e = .returned (.bool true) ∧ Below w.heap.size w w' := by
  obtain ⟨e, L, s, h3, he, hL, hs⟩ := hc1
  obtain ⟨l, hv⟩ := hn
  obtain rfl := h3
  obtain ⟨A, c, rfl, hc, hm, _⟩ := id hv
  unfold maxLen at hm
  obtain ⟨cC, hcC⟩ : ∃ cC, cC = ccs e L s := ⟨_, rfl⟩
  obtain ⟨bC, hbC⟩ : ∃ bC, bC = cb e L s := ⟨_, rfl⟩
  obtain ⟨zc, hz⟩ : ∃ zc, zc = ccs 0 zlive 0 := ⟨_, rfl⟩
  have KC : ∀ w : World, Calls Try.prog 18 #[.agg cC.toArray] w fun x w' => ∃ g c, x = .returned (.slice (some ⟨g, 0, none⟩) 44 c) ∧ Own 5 w' w.heap.size (.slice (some ⟨g, 0, none⟩) 44 c) bC ∧ Below w.heap.size w w' := fun w => by rw [hcC, hbC]; exact cwrite_any e s L w hL hs
  have KR : ∀ (v : Value) (w : World), Bytes w w.heap.size v bC → Calls Try.prog 20 #[v] w fun x w' => x = .returned (.tuple #[.agg cC.toArray, .int .i64 0]) ∧ Below w.heap.size w w' := fun v w h => by
    have k := cread_yes v bC w h (by rw [hbC]; exact cb_length hL)
    obtain ⟨r1, r2, r3⟩ := read_cb (L := L) he hs
    rw [hbC, r1, r2, r3, ← hcC] at k
    exact k
  have hEq : ∀ w, (Op.equalIn 10000 43 (.agg cC.toArray) (.agg cC.toArray)).run Try.prog w = .ok true w := fun w => by
    rw [hcC, commit_eq hL hL w]
    simp [eqC]
  have hEz : ∀ w, (Op.equalIn 10000 43 (.agg zc.toArray) (.agg zc.toArray)).run Try.prog w = .ok true w := fun w => by
    rw [hz, commit_eq (by simp [zlive]) (by simp [zlive]) w]
    simp [eqC]
  have zr := zeroCommit
  rw [← hz] at zr
  have hlC := Lib.hid (show cC.length = 34 by rw [hcC]; exact ccs_length hL)
  have hlz := Lib.hid (show zc.length = 34 by rw [hz]; exact ccs_length (by simp [zlive]))
  have hbl := Lib.hid (show bC.length = 44 by rw [hbC]; exact cb_length hL)
  have hcell : Hid (cC[0]? = some (.int .u64 (e : Int)) ∧ cC[33]? = some (.int .u32 (s : Int))) := Lib.hid (by rw [hcC]; exact ⟨rfl, ccs_last hL⟩)
  have hlive : Hid (∀ (w : World) (g : Nat), Blk w g 43 cC → Bytes w w.heap.size (.slice (some ⟨g, 1, none⟩) 32 32) L) := Lib.hid fun w g h => by rw [hcC] at h; exact h.live hL
  have hbe : Hid (bC = numB 8 e ++ numB 4 s ++ L) := Lib.hid (by rw [hbC, cb, List.append_assoc])
  have HZ := Lib.hid hz
  have hone := Lib.hid (show ∀ v ∈ cC, v.oneCell' = true by rw [hcC]; exact ccs_one _ _ _)
  have HEq := Lib.hid hEq
  have HEz := Lib.hid hEz
  have HKC := Lib.hid KC
  have HKR := Lib.hid KR
  have HV := Lib.hid hv
  have HE := Lib.hid he
  have HS := Lib.hid hs
  have HL := Lib.hid hL
  rw [← hcC]
  clear hcC hbC hEq hEz KC KR hv he hs hL hz
  have a1 := Lib.hid ((Below.refl w.heap.size w).alloc (Nat.le_refl _) (.cells cC.toArray 43))
  have B1 : Hid (Blk (w.alloc (.cells cC.toArray 43)) w.heap.size 43 cC) := Lib.hid (heap_alloc_new w _)
  by_cases hl : 1000 < l.length
  · have d1 : decide ((1000 : Int) < (l.length : Int)) = true := by simp; omega
    go_enter Try.func5, Try.ntmps5
    go_wp2_with fail
    refine (nodespeaks_any _).mono ?_
    rintro e' w2 ⟨rfl, hb2⟩
    have T2 := Lib.hid (a1.out.trans (hb2.mono a1.out.size))
    clear hb2
    go_wp2
    go_ret
    exact ⟨rfl, T2.out⟩
  · have d1 : decide ((1000 : Int) < (l.length : Int)) = false := by simp; omega
    go_enter Try.func5, Try.ntmps5
    go_wp2_with fail
    refine (nodespeaks_any _).mono ?_
    rintro e' w2 ⟨rfl, hb2⟩
    have T2 := Lib.hid (a1.out.trans (hb2.mono a1.out.size))
    have B2 := Lib.hid (B1.out.after hb2)
    have V2 := Lib.hid ((HV.out.below T2.out).more T2.out.size)
    clear hb2
    obtain ⟨gc, hgc⟩ : ∃ gc, gc = w.heap.size := ⟨_, rfl⟩
    rw [← hgc] at B2 ⊢
    clear hgc B1 a1
    go_wp2_with (with_reducible refine wpl_seg_load aggCommit sizeCommit (.tmp 2) rfl rfl B2.out 0 cC (by rw [List.drop_zero, List.take_of_length_le (Nat.le_of_eq hlC.out)]) hlC.out rfl ?_)
    ((with_reducible refine (HKC.out _).mono ?_); rintro x3 w3 ⟨g3, q3, rfl, O3, h3⟩)
    have P3 := Lib.hid (O3.bytes (by rw [hbl.out]; simp [maxLen]))
    have T3 := Lib.hid (T2.out.trans (h3.mono T2.out.size))
    have B3 := Lib.hid (B2.out.after h3)
    have V3 := Lib.hid ((V2.out.below h3).more h3.size)
    clear O3 h3 T2 B2 V2
    go_wp2_with fail
    have k8 := Lib.hid (show ∀ w : World, Calls Try.prog 19 #[.int .i64 8, .int .u64 (e : Int)] w fun x w' => ∃ A c, x = .returned (.slice A 8 c) ∧ Own 5 w' w.heap.size (.slice A 8 c) (numB 8 e) ∧ Below w.heap.size w w' from fun w => refnum_any 8 e HE.out w)
    have k4 := Lib.hid (show ∀ w : World, Calls Try.prog 19 #[.int .i64 4, .int .u64 (s : Int)] w fun x w' => ∃ A c, x = .returned (.slice A 4 c) ∧ Own 5 w' w.heap.size (.slice A 4 c) (numB 4 s) ∧ Below w.heap.size w w' from fun w => refnum_any 4 s (Nat.lt_trans HS.out (by decide)) w)
    obtain ⟨X, hX⟩ : ∃ X : ByteArray, X = ⟨(numB 8 e).toArray⟩ := ⟨_, rfl⟩
    obtain ⟨Y, hY⟩ : ∃ X : ByteArray, X = ⟨(numB 4 s).toArray⟩ := ⟨_, rfl⟩
    obtain ⟨Z, hZ⟩ : ∃ X : ByteArray, X = ⟨L.toArray⟩ := ⟨_, rfl⟩
    have hXYZ := Lib.hid (show X ++ Y ++ Z = ⟨bC.toArray⟩ by rw [hX, hY, hZ, hbe.out, toBytes_append, toBytes_append])
    have HX := Lib.hid hX
    have HY := Lib.hid hY
    have HZZ := Lib.hid hZ
    have sX : X.size = 8 := by rw [hX]; show (numB 8 e).toArray.size = 8; simp [numB_length]
    have sY : Y.size = 4 := by rw [hY]; show (numB 4 s).toArray.size = 4; simp [numB_length]
    have sZ : Z.size = 32 := by rw [hZ]; show L.toArray.size = 32; simp [HL.out]
    clear hX hY hZ
    have wws : IntKind.u64.wrap (s : Int) = (s : Int) := by rw [IntKind.wrap_u64]; have := HS.out; omega
    have S0 : Below w3.heap.size w3 w3.drew := (Below.refl _ _).drew
    refine wp_region_held_drew (S := (fun w' => Below w3.heap.size w3 w')) (by kernel_rfl) S0 (fun _ => ?_)
    refine wpAnyH_take (i := 0) (v := .slice (some ⟨g3, 0, none⟩) 44 q3) rfl (by kernel_rfl) (by kernel_rfl) (by kernel_rfl) (fun _ _ _ h => h) (Or.inl ⟨by kernel_rfl, fun w _ => by go_simp⟩) S0 ?_
    refine wpAnyH_take (i := 1) (v := .string (X ++ Y ++ Z)) rfl (by kernel_rfl) (by kernel_rfl) (by kernel_rfl) (fun _ _ _ h => h) (yields_strU (v := .slice (some ⟨g3, 0, none⟩) 44 q3) (.tmp 17) (by kernel_rfl) (by kernel_rfl) (by kernel_rfl) _ hXYZ.out (fun w h => (P3.out.below h).more h.size)) S0 ?_
    refine wpAnyH_take (i := 2) (v := .pointer (some ⟨gc, 0, none⟩)) rfl (by kernel_rfl) (by kernel_rfl) (by kernel_rfl) (fun _ _ _ h => h) (Or.inl ⟨by kernel_rfl, fun w _ => by go_simp⟩) S0 ?_
    refine wpAnyH_take (i := 3) (v := .int .u64 (e : Int)) rfl (by kernel_rfl) (by kernel_rfl) (by kernel_rfl) (fun _ _ _ h => h) (yields_cellN (ty := 22) (p := ⟨gc, 0, none⟩) (fun _ => by kernel_rfl) (.tmp 19) (by kernel_rfl) (by kernel_rfl) (by kernel_rfl) (fun w h => ((B3.out.after h).cell 0).trans hcell.out.1)) S0 ?_
    refine wpAnyH_take (i := 6) (v := .pointer (some ⟨gc, 33, none⟩)) rfl (by kernel_rfl) (by kernel_rfl) (by kernel_rfl) (fun _ _ _ h => h) (Or.inl ⟨by kernel_rfl, fun w _ => by go_simp⟩) S0 ?_
    refine wpAnyH_take (i := 7) (v := .int .u32 (s : Int)) rfl (by kernel_rfl) (by kernel_rfl) (by kernel_rfl) (fun _ _ _ h => h) (yields_cellN (ty := 41) (p := ⟨gc, 33, none⟩) (fun _ => by kernel_rfl) (.tmp 23) (by kernel_rfl) (by kernel_rfl) (by kernel_rfl) (fun w h => ((B3.out.after h).cell 33).trans hcell.out.2)) S0 ?_
    refine wpAnyH_take (i := 8) (v := .int .u64 (s : Int)) rfl (by kernel_rfl) (by kernel_rfl) (by kernel_rfl) (fun _ _ _ h => h) (Or.inl ⟨by kernel_rfl, fun w _ => by go_simp⟩) S0 ?_
    refine wpAnyH_take (i := 12) (v := .pointer (some ⟨gc, 1, none⟩)) rfl (by kernel_rfl) (by kernel_rfl) (by kernel_rfl) (fun _ _ _ h => h) (Or.inl ⟨by kernel_rfl, fun w _ => by go_simp⟩) S0 ?_
    refine wpAnyH_take (i := 13) (v := .slice (some ⟨gc, 1, none⟩) 32 32) rfl (by kernel_rfl) (by kernel_rfl) (by kernel_rfl) (fun _ _ _ h => h) (Or.inl ⟨by kernel_rfl, fun w _ => by go_simp⟩) S0 ?_
    refine wpAnyH_take (i := 14) (v := .string Z) rfl (by kernel_rfl) (by kernel_rfl) (by kernel_rfl) (fun _ _ _ h => h) (yields_strU (v := .slice (some ⟨gc, 1, none⟩) 32 32) (.tmp 30) (by kernel_rfl) (by kernel_rfl) (by kernel_rfl) _ HZZ.out (fun w h => hlive.out w gc (B3.out.after h))) S0 ?_
    refine wpAnyH_ready (rs := [4]) (by kernel_rfl) (by simp) (AllReadyH.cons rfl (fun K hK => ?_) AllReadyH.nil)
    go_simp
    ((with_reducible refine (k8.out _).mono ?_); rintro x4 w4 ⟨A4, c4, rfl, O4, h4⟩)
    have S1 := S0.trans (h4.mono S0.size)
    have P4 := Lib.hid (O4.bytes (by rw [numB_length]; simp [maxLen]))
    refine hK.out _ _ S1 (fun _ => ?_)
    clear hK K O4 h4
    refine wpAnyH_weaken (S' := fun w' => Below w4.heap.size w4 w') (fun w h => S1.trans (h.mono S1.size)) _ _ _ _ ?_
    have S2 : Below w4.heap.size w4 w4 := Below.refl _ _
    refine wpAnyH_take (i := 5) (v := .string X) rfl (by kernel_rfl) (by kernel_rfl) (by kernel_rfl) (fun _ _ _ h => h) (yields_strU (v := .slice A4 8 c4) (.tmp 21) (by kernel_rfl) (by kernel_rfl) (by kernel_rfl) _ HX.out (fun w h => (P4.out.below h).more h.size)) S2 ?_
    refine wpAnyH_ready (rs := [9]) (by kernel_rfl) (by simp) (AllReadyH.cons rfl (fun K hK => ?_) AllReadyH.nil)
    go_simp
    ((with_reducible refine (k4.out _).mono ?_); rintro x5 w5 ⟨A5, c5, rfl, O5, h5⟩)
    have S3 := S2.trans (h5.mono S2.size)
    have P5 := Lib.hid (O5.bytes (by rw [numB_length]; simp [maxLen]))
    refine hK.out _ _ S3 (fun _ => ?_)
    clear hK K O5 h5
    refine wpAnyH_weaken (S' := fun w' => Below w5.heap.size w5 w') (fun w h => S3.trans (h.mono S3.size)) _ _ _ _ ?_
    have S4 : Below w5.heap.size w5 w5 := Below.refl _ _
    refine wpAnyH_take (i := 10) (v := .string Y) rfl (by kernel_rfl) (by kernel_rfl) (by kernel_rfl) (fun _ _ _ h => h) (yields_strU (v := .slice A5 4 c5) (.tmp 26) (by kernel_rfl) (by kernel_rfl) (by kernel_rfl) _ HY.out (fun w h => (P5.out.below h).more h.size)) S4 ?_
    refine wpAnyH_take (i := 11) (v := .string (X ++ Y)) rfl (by kernel_rfl) (by kernel_rfl) (by kernel_rfl) (fun _ _ _ h => h) (Or.inl ⟨by kernel_rfl, fun w _ => by go_simp⟩) S4 ?_
    refine wpAnyH_take (i := 15) (v := .string (X ++ Y ++ Z)) rfl (by kernel_rfl) (by kernel_rfl) (by kernel_rfl) (fun _ _ _ h => h) (Or.inl ⟨by kernel_rfl, fun w _ => by go_simp⟩) S4 ?_
    refine wpAnyH_take (i := 16) (v := .bool false) rfl (by kernel_rfl) (by kernel_rfl) (by kernel_rfl) (fun _ _ _ h => h) (Or.inl ⟨by kernel_rfl, fun w _ => by go_simp⟩) S4 ?_
    refine wpAnyH_done (by kernel_rfl) ?_ _
    have T5 := Lib.hid ((T3.out.trans (S1.mono T3.out.size)).trans (S3.mono (Nat.le_trans T3.out.size S1.size)))
    have S5 := Lib.hid (S1.trans (S3.mono S1.size))
    have B5 := Lib.hid (B3.out.after S5.out)
    have V5 := Lib.hid ((V3.out.below S5.out).more S5.out.size)
    have P6 := Lib.hid ((P3.out.below S5.out).more S5.out.size)
    clear S0 S1 S2 S3 S4 sX sY sZ wws
    go_wp2_with fail
    ((with_reducible refine (HKR.out _ _ P6.out).mono ?_); rintro x7 w7 ⟨rfl, h7⟩)
    have T7 := Lib.hid (T5.out.trans (h7.mono T5.out.size))
    have B7 := Lib.hid (B5.out.after h7)
    have V7 := Lib.hid ((V5.out.below h7).more h7.size)
    clear h7 T5 B5 V5 P6 T3 B3 V3 P3 S5 P4 P5 k8 k4 hXYZ HX HY HZZ
    have N7 : Hid (Blk (w7.alloc (.cells zc.toArray 43)) w7.heap.size 43 zc) := Lib.hid (heap_alloc_new w7 _)
    have T7b := Lib.hid (T7.out.alloc T7.out.size (.cells zc.toArray 43))
    have B7b := Lib.hid (B7.out.alloc (.cells zc.toArray 43))
    have V7b := Lib.hid (V7.out.alloc (Nat.le_refl _) (.cells zc.toArray 43))
    have hne7 := Lib.hid (Nat.ne_of_lt B7.out.lt)
    have hoC := Lib.hid (show ∀ v ∈ cC, v.oneCell' = true from hone.out)
    have hiz := Lib.hid (show 0 + 34 ≤ zc.length by rw [hlz.out]; omega)
    have hsgC := Lib.hid (segSet_whole (cs := zc) (vs := cC) (by rw [hlz.out, hlC.out]))
    go_wp2_with (with_reducible refine wpl_seg_store sizeCommit (.tmp 6) (.tmp 37) rfl rfl N7.out 0 cC hlC.out hiz.out hoC.out rfl rfl cC hsgC.out ?_; intro w8 B8 g8 e8)
    have N8 := Lib.hid B8
    have hz7 := T7.out.size
    have T8 := Lib.hid (T7b.out.grown g8 T7b.out.size (fun k e => by cases e; exact hz7))
    have C8 := Lib.hid (B7b.out.grown g8 (by have := hne7.out; simpa using this))
    have V8 := Lib.hid ((HV.out.below T8.out).more T8.out.size)
    obtain ⟨gn, hgn⟩ : ∃ gn, gn = w7.heap.size := ⟨_, rfl⟩
    rw [← hgn] at N8 ⊢
    clear hgn g8 e8 B8 N7 T7b B7b V7b T7 B7 V7 hz7 hne7
    by_cases h44 : l.length = 44
    · have d44 : ((l.length : Int) != 44) = false := by simp; omega
      obtain ⟨nc, hnc⟩ : ∃ nc, nc = ccs (le (l.take 8)) (l.drop 12) (le ((l.drop 8).take 4)) := ⟨_, rfl⟩
      have hl32 : (l.drop 12).length = 32 := by rw [List.length_drop, h44]
      have hs4 : le ((l.drop 8).take 4) < 4294967296 := le_lt_of (n := 4) (by rw [List.length_take]; omega)
      have hln := Lib.hid (show nc.length = 34 by rw [hnc]; exact ccs_length hl32)
      have hon := Lib.hid (show ∀ v ∈ nc, v.oneCell' = true by rw [hnc]; exact ccs_one _ _ _)
      have hsn := Lib.hid (segSet_whole (cs := zc) (vs := nc) (by rw [hlz.out, hln.out]))
      have KR2 := Lib.hid (show Calls Try.prog 20 #[.slice A l.length c] w8 fun x w' => x = .returned (.tuple #[.agg nc.toArray, .int .i64 0]) ∧ Below w8.heap.size w8 w' by rw [hnc]; exact cread_yes _ l w8 V8.out h44)
      have KW2 := Lib.hid (show ∀ w : World, Calls Try.prog 18 #[.agg nc.toArray] w fun x w' => ∃ g c, x = .returned (.slice (some ⟨g, 0, none⟩) 44 c) ∧ Own 5 w' w.heap.size (.slice (some ⟨g, 0, none⟩) 44 c) l ∧ Below w.heap.size w w' from fun w => by have k := cwrite_any (le (l.take 8)) (le ((l.drop 8).take 4)) (l.drop 12) w hl32 hs4; rw [cb_read h44, ← hnc] at k; exact k)
      clear hnc hl32 hs4
      ((with_reducible refine KR2.out.mono ?_); rintro x9 w9 ⟨rfl, h9⟩)
      have T9 := Lib.hid (T8.out.trans (h9.mono T8.out.size))
      have C9 := Lib.hid (C8.out.after h9)
      have N9 := Lib.hid (N8.out.after h9)
      have M9 : Hid (Blk (w9.alloc (.cells zc.toArray 43)) w9.heap.size 43 zc) := Lib.hid (heap_alloc_new w9 _)
      have T9b := Lib.hid (T9.out.alloc T9.out.size (.cells zc.toArray 43))
      have C9b := Lib.hid (C9.out.alloc (.cells zc.toArray 43))
      have N9b := Lib.hid (N9.out.alloc (.cells zc.toArray 43))
      have hz9 := T9.out.size
      have hc9 := C9.out.lt
      have hn9 := N9.out.lt
      have HZ9 := Lib.hid (And.intro hz9 (And.intro (Nat.ne_of_lt hc9) (Nat.ne_of_lt hn9)))
      clear h9 hz9 hc9 hn9
      go_wp2_with (first | (with_reducible refine wpl_seg_store sizeCommit (.tmp 8) (.tmp 42) rfl rfl M9.out 0 nc hln.out hiz.out hon.out rfl rfl nc hsn.out ?_; intro w10 B10 g10 e10; have T10 := Lib.hid (T9b.out.grown g10 T9b.out.size (fun k e => by cases e; exact HZ9.out.1)); have C10 := Lib.hid (C9b.out.grown g10 (by simpa using HZ9.out.2.1)); have N10 := Lib.hid (N9b.out.grown g10 (by simpa using HZ9.out.2.2)); have M10 := Lib.hid B10; have hEq := HEq.out; clear g10 e10 B10) | (with_reducible refine wpl_seg_load aggCommit sizeCommit (.tmp 6) rfl rfl N10.out 0 cC (by rw [List.drop_zero, List.take_of_length_le (Nat.le_of_eq hlC.out)]) hlC.out rfl ?_) | (with_reducible refine wpl_seg_load aggCommit sizeCommit (.tmp 2) rfl rfl C10.out 0 cC (by rw [List.drop_zero, List.take_of_length_le (Nat.le_of_eq hlC.out)]) hlC.out rfl ?_))
      have V10 := Lib.hid ((HV.out.below T10.out).more T10.out.size)
      obtain ⟨gm, hgm⟩ : ∃ gm, gm = w9.heap.size := ⟨_, rfl⟩
      rw [← hgm] at M10 ⊢
      clear hgm hEq
      obtain ⟨U, hU⟩ : ∃ U : ByteArray, U = ⟨l.toArray⟩ := ⟨_, rfl⟩
      have HU := Lib.hid hU
      clear hU
      have H44 := Lib.hid h44
      have S0 : Below w10.heap.size w10 w10.drew := (Below.refl _ _).drew
      refine wp_region_held_drew (S := (fun w' => Below w10.heap.size w10 w')) (by kernel_rfl) S0 (fun _ => ?_)
      refine wpAnyH_take (i := 0) (v := .int .i64 0) rfl (by kernel_rfl) (by kernel_rfl) (by kernel_rfl) (fun _ _ _ h => h) (Or.inl ⟨by kernel_rfl, fun w _ => by go_simp⟩) S0 ?_
      refine wpAnyH_take (i := 1) (v := .bool true) rfl (by kernel_rfl) (by kernel_rfl) (by kernel_rfl) (fun _ _ _ h => h) (Or.inl ⟨by kernel_rfl, fun w _ => by go_simp⟩) S0 ?_
      refine wpAnyH_take (i := 2) (v := .bool true) rfl (by kernel_rfl) (by kernel_rfl) (by kernel_rfl) (fun _ _ _ h => h) (Or.inl ⟨by kernel_rfl, fun w _ => by go_simp⟩) S0 ?_
      refine wpAnyH_take (i := 3) (v := .agg nc.toArray) rfl (by kernel_rfl) (by kernel_rfl) (by kernel_rfl) (fun _ _ _ h => h) (yields_seg aggCommit sizeCommit (.tmp 8) (by kernel_rfl) (by kernel_rfl) (by kernel_rfl) (g := gm) (i := 0) (fun w h => M10.out.after h) (by rw [List.drop_zero, List.take_of_length_le (Nat.le_of_eq hln.out)]) hln.out) S0 ?_
      refine wpAnyH_take (i := 6) (v := .slice A l.length c) rfl (by kernel_rfl) (by kernel_rfl) (by kernel_rfl) (fun _ _ _ h => h) (Or.inl ⟨by kernel_rfl, fun w _ => by go_simp⟩) S0 ?_
      refine wpAnyH_take (i := 7) (v := .string U) rfl (by kernel_rfl) (by kernel_rfl) (by kernel_rfl) (fun _ _ _ h => h) (yields_strU (v := .slice A l.length c) (.tmp 67) (by kernel_rfl) (by kernel_rfl) (by kernel_rfl) _ HU.out (fun w h => (V10.out.below h).more h.size)) S0 ?_
      refine wpAnyH_ready (rs := [4]) (by kernel_rfl) (by simp) (AllReadyH.cons rfl (fun K hK => ?_) AllReadyH.nil)
      go_simp
      ((with_reducible refine (KW2.out _).mono ?_); rintro x11 w11 ⟨g11, q11, rfl, O11, h11⟩)
      have S1 := S0.trans (h11.mono S0.size)
      have P11 := Lib.hid (O11.bytes (by rw [H44.out]; simp [maxLen]))
      refine hK.out _ _ S1 (fun _ => ?_)
      clear hK K O11 h11
      refine wpAnyH_weaken (S' := fun w' => Below w11.heap.size w11 w') (fun w h => S1.trans (h.mono S1.size)) _ _ _ _ ?_
      have S2 : Below w11.heap.size w11 w11 := Below.refl _ _
      refine wpAnyH_take (i := 5) (v := .string U) rfl (by kernel_rfl) (by kernel_rfl) (by kernel_rfl) (fun _ _ _ h => h) (yields_strU (v := .slice (some ⟨g11, 0, none⟩) 44 q11) (.tmp 65) (by kernel_rfl) (by kernel_rfl) (by kernel_rfl) _ HU.out (fun w h => (P11.out.below h).more h.size)) S2 ?_
      refine wpAnyH_take (i := 8) (v := .bool true) rfl (by kernel_rfl) (by kernel_rfl) (by kernel_rfl) (fun _ _ _ h => h) (Or.inl ⟨by kernel_rfl, fun w _ => by go_simp⟩) S2 ?_
      refine wpAnyH_take (i := 9) (v := .bool true) rfl (by kernel_rfl) (by kernel_rfl) (by kernel_rfl) (fun _ _ _ h => h) (Or.inl ⟨by kernel_rfl, fun w _ => by go_simp⟩) S2 ?_
      refine wpAnyH_ready (rs := [10]) (by kernel_rfl) (by simp) (AllReadyH.cons rfl (fun K hK => ?_) AllReadyH.nil)
      go_simp
      refine hK.out _ _ S2 (fun _ => ?_)
      clear hK K
      refine wpAnyH_done (by kernel_rfl) ?_ _
      have TZ := Lib.hid (T10.out.trans (S1.mono T10.out.size))
      clear S0 S1 S2
      go_wp2
      go_ret
      exact ⟨rfl, TZ.out⟩
    · have d44 : ((l.length : Int) != 44) = true := by simp; omega
      have hoz := Lib.hid (show ∀ v ∈ zc, v.oneCell' = true by rw [HZ.out]; exact ccs_one _ _ _)
      have hsz := Lib.hid (segSet_whole (cs := zc) (vs := zc) rfl)
      have KR2 := Lib.hid (show Calls Try.prog 20 #[.slice A l.length c] w8 fun x w' => x = .returned (.tuple #[.agg zc.toArray, .int .i64 11]) ∧ Below w8.heap.size w8 w' by rw [HZ.out]; exact cread_no _ l w8 V8.out h44)
      ((with_reducible refine KR2.out.mono ?_); rintro x9 w9 ⟨rfl, h9⟩)
      have T9 := Lib.hid (T8.out.trans (h9.mono T8.out.size))
      have C9 := Lib.hid (C8.out.after h9)
      have N9 := Lib.hid (N8.out.after h9)
      have M9 : Hid (Blk (w9.alloc (.cells zc.toArray 43)) w9.heap.size 43 zc) := Lib.hid (heap_alloc_new w9 _)
      have T9b := Lib.hid (T9.out.alloc T9.out.size (.cells zc.toArray 43))
      have C9b := Lib.hid (C9.out.alloc (.cells zc.toArray 43))
      have N9b := Lib.hid (N9.out.alloc (.cells zc.toArray 43))
      have hz9 := T9.out.size
      have hc9 := C9.out.lt
      have hn9 := N9.out.lt
      have HZ9 := Lib.hid (And.intro hz9 (And.intro (Nat.ne_of_lt hc9) (Nat.ne_of_lt hn9)))
      clear h9 hz9 hc9 hn9
      go_wp2_with (first | (with_reducible refine wpl_seg_store sizeCommit (.tmp 8) (.tmp 42) rfl rfl M9.out 0 zc hlz.out hiz.out hoz.out rfl rfl zc hsz.out ?_; intro w10 B10 g10 e10; have T10 := Lib.hid (T9b.out.grown g10 T9b.out.size (fun k e => by cases e; exact HZ9.out.1)); have C10 := Lib.hid (C9b.out.grown g10 (by simpa using HZ9.out.2.1)); have N10 := Lib.hid (N9b.out.grown g10 (by simpa using HZ9.out.2.2)); have M10 := Lib.hid B10; have hEq := HEq.out; have hEz := HEz.out; clear g10 e10 B10) | (with_reducible refine wpl_seg_load aggCommit sizeCommit (.tmp 6) rfl rfl N10.out 0 cC (by rw [List.drop_zero, List.take_of_length_le (Nat.le_of_eq hlC.out)]) hlC.out rfl ?_) | (with_reducible refine wpl_seg_load aggCommit sizeCommit (.tmp 2) rfl rfl C10.out 0 cC (by rw [List.drop_zero, List.take_of_length_le (Nat.le_of_eq hlC.out)]) hlC.out rfl ?_) | (with_reducible refine wpl_seg_load aggCommit sizeCommit (.tmp 8) rfl rfl M10.out 0 zc (by rw [List.drop_zero, List.take_of_length_le (Nat.le_of_eq hlz.out)]) hlz.out rfl ?_))
      go_ret
      exact ⟨rfl, T10.out⟩
end Go.Proofs.Ytdmganpblkepfaa
