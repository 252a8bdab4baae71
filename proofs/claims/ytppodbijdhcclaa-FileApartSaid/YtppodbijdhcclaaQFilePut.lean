/- put of file: the nodes become those of a file of other bytes, or there is no room. Condition: the cache tells inodes; the array has the new bytes of the chunks that are written. -/
import Derived.Test.YtppodbijdhcclaaQFileJB
import Derived.Deep.DeepCutAuto
namespace Go.Proofs.Ytppodbijdhcclaa
open Go Go.RowKit
theorem blk_part {w : World} {g : Nat} {t : TypeId} {L : List UInt8} (h : Blk w g t (bv L)) (a n c : Nat) (hn : a + n ≤ L.length) (hc : n ≤ c) (hm : c ≤ maxLen) : BytesS w (fun b => b = g) (.slice (some ⟨g, a, none⟩) n c) ((L.drop a).take n) := by
  have hlen : ((L.drop a).take n).length = n := by rw [List.length_take, List.length_drop]; omega
  refine ⟨some ⟨g, a, none⟩, c, by rw [hlen], by omega, hm, fun j u hu => ⟨_, rfl, rfl, ?_⟩⟩
  have hj := get_lt hu
  rw [bv_length, hlen] at hj
  rw [show (⟨g, a, none⟩ : Addr).add j = ⟨g, a + j, none⟩ by simp [Addr.add_lit], h.cell]
  rw [← hu]
  unfold bv
  rw [List.getElem?_map, List.getElem?_map, List.getElem?_take, if_pos hj, List.getElem?_drop]
theorem chunks_num {s : Nat} (hs : s ≤ 768) : chunksOf (s : Int) = (numC s : Int) := by
  unfold chunksOf numC
  split <;> omega
/-- what put answers -/
def PutR (w : World) (i : CI) (N : Nat) (F F' : FS) (S : Nat → Prop) (e : Ending) (w' : World) : Prop :=
  (FS.full i.mo F F' ∧ e = .returned (.int .i64 40) ∧ Below w.heap.size w w') ∨
  (¬ FS.full i.mo F F' ∧ e = .returned (.int .i64 0) ∧ w.grownBy w' (some i.m) ∧ ∃ S', FAt w' i (N + 20) F' S' ∧ ∀ b, S' b → S b ∨ w.heap.size ≤ b)
theorem putR_of {w w9 : World} {i : CI} {N : Nat} {F F' : FS} {S : Nat → Prop} {v : Value} {C : CL} (T : Below w.heap.size w w9) (hC : C.length ≤ 20)
    (h : Calls Try.prog 19 #[.pointer (some ⟨i.q, 0, none⟩), v] w9 fun e w' =>
      (FS.full i.mo F F' ∧ e = .returned (.int .i64 40) ∧ Below w9.heap.size w9 w') ∨
      (¬ FS.full i.mo F F' ∧ e = .returned (.int .i64 0) ∧ w9.grownBy w' (some i.m) ∧ FAt w' i (N + C.length) F' (fun b => S b ∨ (w9.heap.size ≤ b ∧ b < w'.heap.size)))) :
    Calls Try.prog 19 #[.pointer (some ⟨i.q, 0, none⟩), v] w9 fun e w' => PutR w i N F F' S e w' := by
  refine h.mono ?_
  rintro e w' (⟨h1, h2, h3⟩ | ⟨h1, h2, h3, h4⟩)
  · exact .inl ⟨h1, h2, T.trans (h3.mono T.size)⟩
  · exact .inr ⟨h1, h2, only_trans (only_of_below T _) h3, _, h4.more (by omega), fun b hb => hb.elim .inl (fun hb => .inr (Nat.le_trans T.size hb.1))⟩
set_option maxRecDepth 100000 in
set_option maxHeartbeats 16000000 in
theorem fput_any (i : CI) (N : Nat) (F : FS) (S : Nat → Prop) (n : Int) (l new : List UInt8) (f : Nat → UInt8) (a t : Nat) (w : World) (h : FAt w i N F S) (hF : F n = some (.file l)) (hN : N ≤ 900000) (hl : new.length ≤ 768) (ht : t ≤ new.length) (ha : a ≤ 768)
    (hf : ∀ k, a / 128 + 1 ≤ k → k ≤ numC t → ∀ b, 128 * (k - 1) ≤ b → b < 128 * k → b < new.length → f b = new.getD b 0)
    (hs : ∀ k, 1 ≤ k → (k < a / 128 + 1 ∨ numC t < k) → 128 * (k - 1) < new.length → 128 * (k - 1) < l.length ∧ chunkL new (k - 1) = chunkL l (k - 1)) :
    Calls Try.prog 59 #[.agg #[.pointer (some ⟨i.q, 0, none⟩), .int .i64 n, .int .i64 (l.length : Int)], .agg (cl (tab f)), .int .i64 (a : Int), .int .i64 (t : Int), .int .i64 (new.length : Int)] w fun e w' => PutR w i N F (F.put n (some (.file new))) S e w' := by
  obtain ⟨hn, hl2⟩ := h.ok n _ hF
  have hl2 := hl2 l rfl
  have HH := Lib.hid h
  have HHF := Lib.hid hF
  have HF := Lib.hid hf
  have HS := Lib.hid hs
  have HL := Lib.hid hl
  have b1 := (Below.refl w.heap.size w).alloc (Nat.le_refl _) (.cells #[.pointer (some ⟨i.q, 0, none⟩), .int .i64 n, .int .i64 (l.length : Int)] 101)
  have T0 := Lib.hid (b1.alloc b1.size (.cells (cl (tab f)) 105))
  have X0 := Lib.hid ((Blk.new3c w (.pointer (some ⟨i.q, 0, none⟩)) (.int .i64 n) (.int .i64 (l.length : Int)) 101).alloc (.cells (cl (tab f)) 105))
  obtain ⟨W1, hW1⟩ : ∃ W1, W1 = w.alloc (.cells #[.pointer (some ⟨i.q, 0, none⟩), .int .i64 n, .int .i64 (l.length : Int)] 101) := ⟨_, rfl⟩
  have e1 : W1.heap.size = w.heap.size + 1 := by rw [hW1, World.size_alloc]
  rw [← hW1] at X0 T0
  have A0 : Hid (Blk (W1.alloc (.cells (cl (tab f)) 105)) (w.heap.size + 1) 105 (bv (tab f))) := Lib.hid (by rw [← e1]; exact heap_alloc_new W1 _)
  have aggA : (isAgg 105).run Try.prog W1 = .ok true W1 := aggT W1
  clear h hF hf hs b1
  go_enter Try.func59, Try.ntmps59
  go_wp2_with fail
  rw [← hW1]
  obtain ⟨W2, hW2⟩ : ∃ W2, W2 = W1.alloc (.cells (cl (tab f)) 105) := ⟨_, rfl⟩
  rw [← hW2] at X0 T0 A0 ⊢
  clear hW2 hW1 e1 aggA
  obtain ⟨g, hg⟩ : ∃ g, g = w.heap.size := ⟨_, rfl⟩
  have HG := Lib.hid hg
  have hcap : (tab f).length = 768 := tab_length f
  obtain ⟨L, hL⟩ : ∃ L, L = tab f := ⟨_, rfl⟩
  have HLT := Lib.hid hL
  rw [← hL] at A0 hcap
  rw [← hg] at X0 A0 ⊢
  obtain ⟨a0, ha0⟩ : ∃ a0, a0 = a / 128 + 1 := ⟨_, rfl⟩
  rw [← ha0] at HF HS
  have hst : (a : Int) / 128 + 1 = (a0 : Int) := by omega
  rw [hst]
  obtain ⟨tn, htn⟩ : ∃ tn, tn = numC t := ⟨_, rfl⟩
  have ht6 : tn ≤ 6 := by rw [htn]; unfold numC; omega
  have HTN : Hid (128 * tn < t + 128 ∧ ∀ k, k ≤ tn → 1 ≤ k → 128 * (k - 1) < t) := Lib.hid ⟨by rw [htn]; unfold numC; omega, fun k h1 h2 => by rw [htn] at h1; unfold numC at h1; omega⟩
  have KT : Hid (∀ w, Calls Try.prog 56 #[.int .i64 (t : Int)] w fun e w' => e = .returned (.int .i64 (tn : Int)) ∧ w = w') := Lib.hid (fun w => by
    have := chunks_any (t : Int) (by omega) w
    rwa [chunks_num (by omega), ← htn] at this)
  rw [← htn] at HF HS
  obtain ⟨sz, hsz⟩ : ∃ sz : Int, sz = (l.length : Int) := ⟨_, rfl⟩
  have HSZ := Lib.hid hsz
  obtain ⟨s, hs⟩ : ∃ s, s = new.length := ⟨_, rfl⟩
  have HSN := Lib.hid hs
  rw [← hsz] at X0 ⊢
  rw [← hs] at hl ht ⊢
  have ha1 : 1 ≤ a0 := by omega
  have ha7 : a0 ≤ 7 := by omega
  clear hL hst htn hsz hs ha0 hg
  go_loopw [11, 12] (fun v k wr => ∃ (j : Nat) (A : Option Addr) (c : Nat) (cs : List CV) (ls : List (List UInt8)), j ≤ tn + 1 - a0 ∧ v = .slice A j c ∧ k = .int .i64 ((a0 + j : Nat) : Int) ∧ Hid (ChOwn wr g (.slice A j c) cs ls) ∧ Hid (saysC cs ls (chunkC n new a0 j)) ∧ Hid ((Value.slice A j c).ownBlock ≠ some g ∧ (Value.slice A j c).ownBlock ≠ some (g + 1)) ∧ Hid (Blk wr g 101 [.pointer (some ⟨i.q, 0, none⟩), .int .i64 n, .int .i64 sz]) ∧ Hid (Blk wr (g + 1) 105 (bv L)) ∧ Hid (Below w.heap.size w wr)) (fun _ k _ => 16 - (intOf k).toNat)
  case atStart => exact ⟨0, none, 0, [], [], Nat.zero_le _, rfl, rfl, Lib.hid (ChOwn.nil _ _), Lib.hid saysC.nil, Lib.hid ⟨(fun e => by cases e), (fun e => by cases e)⟩, X0, A0, T0⟩
  case round =>
    clear X0 T0 A0
    obtain ⟨j, A, c, cs, ls, hj, rfl, rfl, hO, hS, hB, hX, hA, hT⟩ := hrel
    by_cases hlt : a0 + j ≤ tn
    · have d1 : ((a0 + j : Nat) : Int) ≤ (tn : Int) := by omega
      obtain ⟨q, hq⟩ : ∃ q, q = a0 + j := ⟨_, rfl⟩
      have HQ := Lib.hid hq
      rw [← hq] at d1 ⊢
      have q6 : 1 ≤ q ∧ q ≤ 6 := ⟨by omega, by omega⟩
      have hj9 : j ≤ 9 := by omega
      have hq1 := HTN.out.2 q (by omega) q6.1
      have KS := Lib.hid (fun w => span_any q s w ⟨q6.1, by omega⟩)
      have KQ : Hid (∀ w, Calls Try.prog 61 #[.int .i64 n, .int .i64 (q : Int)] w fun e w' => e = .returned (.int .i64 (8 * n + (q : Int))) ∧ w = w') := Lib.hid (fun w => by
        have := key_any n (q : Int) w
        rw [show keyOf n (q : Int) = 8 * n + (q : Int) by unfold keyOf; rw [if_pos (by omega)]] at this
        exact this)
      have hbe : begN q s = 128 * (q - 1) := by unfold begN; omega
      have hbn : begN q s < endN q s ∧ endN q s ≤ 768 ∧ endN q s ≤ s := by unfold begN endN; omega
      have HCH : Hid ((L.drop (begN q s)).take (endN q s - begN q s) = chunkL new (q - 1)) := Lib.hid (by
        have hcl := chunkL_len new (q - 1)
        rw [HLT.out]
        refine tab_part (by omega) (by rw [hcl]; have := HSN.out; unfold begN endN; omega) (fun b hb => ?_)
        rw [hbe, HF.out q (by have := HQ.out; omega) (by omega) (128 * (q - 1) + b) (by omega) (by unfold begN endN at hb; omega) (by have := HSN.out; unfold begN endN at hb; omega)]
        have := chunkL_get new (q - 1) (128 * (q - 1) + b) (by omega) (by unfold begN endN at hb; omega)
        rw [← this]
        congr 1
        omega)
      obtain ⟨be, hbE⟩ : ∃ be, be = begN q s := ⟨_, rfl⟩
      obtain ⟨en, heN⟩ : ∃ en, en = endN q s := ⟨_, rfl⟩
      rw [← hbE, ← heN] at KS HCH hbn
      have e1 : (be : Int) ≤ (en : Int) := by omega
      have e2 : (en : Int) ≤ 768 := by omega
      have e3 : ¬ 768 = be := by omega
      have HLN : Hid (cs.length = j) := Lib.hid (by rw [hS.out.len.1]; unfold chunkC; rw [List.length_map, List.length_range'])
      obtain ⟨ky, hky⟩ : ∃ ky : Int, ky = 8 * n + (q : Int) := ⟨_, rfl⟩
      have HKY := Lib.hid hky
      rw [← hky] at KQ
      clear hky hbE heN hbe hq
      have x1 : wr.cell? ⟨g, 1, none⟩ = some (.int .i64 n) := hX.out.cell 1
      go_upto_region 6 with (first
        | (go_at_call 56; (with_reducible refine (KT.out _).mono ?_); rintro e w2 ⟨rfl, rfl⟩)
        | (go_at_call 71; (with_reducible refine (KS.out _).mono ?_); rintro e w2 ⟨rfl, rfl⟩))
      have gd : wr.grownBy wr.drew none := ⟨rfl, rfl, rfl, Nat.le_refl _, fun _ _ _ => rfl⟩
      have x1d : wr.drew.cell? ⟨g, 1, none⟩ = some (.int .i64 n) := x1
      have D0 : Hid (Below w.heap.size w wr.drew) := Lib.hid hT.out.drew
      have B2 := Lib.hid ((Below.refl wr.drew.heap.size wr.drew).alloc (Nat.le_refl _) (.cells #[.int .i64 ky, .bool false, .slice (some ⟨g + 1, be, none⟩) (en - be) (768 - be)] 46))
      have T2 := Lib.hid (D0.out.trans (B2.out.mono D0.out.size))
      have O2 := Lib.hid ((show ChOwn wr.drew g (.slice A j c) cs ls from ⟨World.ownsRow.kept hO.out.row gd (by cases (Value.slice A j c).ownBlock <;> simp), hO.out.len, fun i x hx => ((hO.out.bods i x hx).grown gd (by simp))⟩).below B2.out)
      have X2 : Hid (Blk _ g 101 _) := Lib.hid ((show Blk wr.drew g 101 [.pointer (some ⟨i.q, 0, none⟩), .int .i64 n, .int .i64 sz] from hX.out).after B2.out)
      have A2 : Hid (Blk _ (g + 1) 105 _) := Lib.hid ((show Blk wr.drew (g + 1) 105 (bv L) from hA.out).after B2.out)
      have R2 := Lib.hid (rowsX_one wr.drew ⟨ky, false, some ⟨g + 1, be, none⟩, en - be, 768 - be⟩)
      have S2 : Hid (saysC (cs ++ [⟨ky, false, some ⟨g + 1, be, none⟩, en - be, 768 - be⟩]) (ls ++ [chunkL new (q - 1)]) (chunkC n new a0 (j + 1))) := Lib.hid (by
        have := hS.out.snoc ⟨ky, false, some ⟨g + 1, be, none⟩, en - be, 768 - be⟩ (chunkL new (q - 1)) (8 * n + (q : Int), some (chunkL new (q - 1))) HKY.out rfl rfl
        rw [chunkC_succ, ← HQ.out]
        exact this)
      have Y2 := Lib.hid (blk_part A2.out be (en - be) (768 - be) (by rw [hcap]; omega) (by omega) (by unfold maxLen; omega))
      rw [HCH.out] at Y2
      clear x1
      go_wp2_with fail
      refine wp_region_held_drew (S := (fun w' => w'.cell? ⟨g, 1, none⟩ = some (.int .i64 n))) (by kernel_rfl) x1d (fun _ => ?_)
      refine wpAnyH_take (i := 0) (v := .slice A j c) rfl (by kernel_rfl) (by kernel_rfl) (by kernel_rfl) (fun _ _ _ h => h) (Or.inl ⟨by kernel_rfl, fun w _ => by go_simp⟩) x1d ?_
      simp only [Act.put, List.getElem_toArray, List.getElem_cons_zero, List.setIfInBounds_toArray, List.set_cons_zero, List.set_cons_succ]
      refine wpAnyH_take (i := 1) (v := .pointer (some ⟨g, 1, none⟩)) rfl (by kernel_rfl) (by kernel_rfl) (by kernel_rfl) (fun _ _ _ h => h) (Or.inl ⟨by kernel_rfl, fun w _ => by go_simp⟩) x1d ?_
      simp only [Act.put, List.getElem_toArray, List.getElem_cons_zero, List.getElem_cons_succ, List.setIfInBounds_toArray, List.set_cons_zero, List.set_cons_succ]
      refine wpAnyH_take (i := 2) (v := .int .i64 n) rfl (by kernel_rfl) (by kernel_rfl) (by kernel_rfl) (fun _ _ _ h => h) (yields_one (ty := 3) (fun w => by kernel_rfl) (.tmp 33) (by kernel_rfl) (by kernel_rfl) (by kernel_rfl) (fun w h => h)) x1d ?_
      simp only [Act.put, List.getElem_toArray, List.getElem_cons_zero, List.getElem_cons_succ, List.setIfInBounds_toArray, List.set_cons_zero, List.set_cons_succ]
      refine wpAnyH_take (i := 3) (v := .int .i64 (q : Int)) rfl (by kernel_rfl) (by kernel_rfl) (by kernel_rfl) (fun _ _ _ h => h) (Or.inl ⟨by kernel_rfl, fun w _ => by go_simp⟩) x1d ?_
      simp only [Act.put, List.getElem_toArray, List.getElem_cons_zero, List.getElem_cons_succ, List.setIfInBounds_toArray, List.set_cons_zero, List.set_cons_succ]
      refine wpAnyH_take (i := 5) (v := .int .i64 (be : Int)) rfl (by kernel_rfl) (by kernel_rfl) (by kernel_rfl) (fun _ _ _ h => h) (Or.inl ⟨by kernel_rfl, fun w _ => by go_simp⟩) x1d ?_
      simp only [Act.put, List.getElem_toArray, List.getElem_cons_zero, List.getElem_cons_succ, List.setIfInBounds_toArray, List.set_cons_zero, List.set_cons_succ]
      refine wpAnyH_take (i := 6) (v := .int .i64 (en : Int)) rfl (by kernel_rfl) (by kernel_rfl) (by kernel_rfl) (fun _ _ _ h => h) (Or.inl ⟨by kernel_rfl, fun w _ => by go_simp⟩) x1d ?_
      simp only [Act.put, List.getElem_toArray, List.getElem_cons_zero, List.getElem_cons_succ, List.setIfInBounds_toArray, List.set_cons_zero, List.set_cons_succ]
      refine wpAnyH_take (i := 7) (v := .slice (some ⟨g + 1, be, none⟩) (en - be) (768 - be)) rfl (by kernel_rfl) (by kernel_rfl) (by kernel_rfl) (fun _ _ _ h => h) (Or.inl ⟨by kernel_rfl, fun w _ => by go_simp⟩) x1d ?_
      simp only [Act.put, List.getElem_toArray, List.getElem_cons_zero, List.getElem_cons_succ, List.setIfInBounds_toArray, List.set_cons_zero, List.set_cons_succ]
      refine wpAnyH_ready (rs := [4]) (by kernel_rfl) (by simp) (AllReadyH.cons rfl (fun K hK => ?_) AllReadyH.nil)
      go_simp
      (with_reducible refine (KQ.out _).mono ?_); rintro e w2 ⟨rfl, rfl⟩
      refine hK _ _ x1d (fun _ => ?_)
      clear hK K
      refine wpAnyH_take (i := 8) (v := .agg #[.int .i64 ky, .bool false, .slice (some ⟨g + 1, be, none⟩) (en - be) (768 - be)]) rfl (by kernel_rfl) (by kernel_rfl) (by kernel_rfl) (fun _ _ _ h => h) (Or.inl ⟨by kernel_rfl, fun w _ => by go_simp⟩) x1d ?_
      simp only [Act.put, List.getElem_toArray, List.getElem_cons_zero, List.getElem_cons_succ, List.setIfInBounds_toArray, List.set_cons_zero, List.set_cons_succ]
      refine wpAnyH_ready (rs := [9]) (by kernel_rfl) (by simp) (AllReadyH.cons rfl (fun K hK => ?_) AllReadyH.nil)
      go_simp
      obtain ⟨W2, hW2⟩ : ∃ W2, W2 = wr.drew.alloc (.cells #[.int .i64 ky, .bool false, .slice (some ⟨g + 1, be, none⟩) (en - be) (768 - be)] 46) := ⟨_, rfl⟩
      have eW : (wr.alloc (.cells #[.int .i64 ky, .bool false, .slice (some ⟨g + 1, be, none⟩) (en - be) (768 - be)] 46)).drew = W2 := by rw [hW2]; rfl
      rw [eW]
      rw [← hW2] at T2 O2 X2 A2 R2 Y2 B2
      obtain ⟨gx, hgx⟩ : ∃ gx, gx = wr.heap.size := ⟨_, rfl⟩
      have R3 : Hid (RowsX W2 (some ⟨gx, 0, none⟩) [⟨ky, false, some ⟨g + 1, be, none⟩, en - be, 768 - be⟩]) := Lib.hid (by rw [hgx]; exact R2.out)
      rw [← hgx]
      have HGW : Hid (g ≤ W2.heap.size) := Lib.hid (by have := A2.out.lt; omega)
      have Y3 := Lib.hid (bodS_one (x := ⟨ky, false, some ⟨g + 1, be, none⟩, en - be, 768 - be⟩) (Y2.out.more (S' := fun b => g ≤ b ∧ b < W2.heap.size ∧ (Value.slice A j c).ownBlock ≠ some b) (fun b hb => ⟨by omega, by have := A2.out.lt; omega, by rw [hb]; exact hB.out.2⟩)))
      clear hW2 eW hgx R2 Y2 B2 D0 gd hX hA hT hO hS x1d
      have x2 : W2.cell? ⟨g, 1, none⟩ = some (.int .i64 n) := X2.out.cell 1
      refine hK _ _ x2 (fun _ => ?_)
      clear hK K
      refine wpAnyH_ready (rs := [10]) (by kernel_rfl) (by simp) (AllReadyH.cons rfl (fun K hK => ?_) AllReadyH.nil)
      refine step_app_chs (m := 1) (c2 := 1) (by kernel_rfl) (.tmp 32) (.tmp 41) (by kernel_rfl) (by kernel_rfl) O2.out HLN.out (by kernel_rfl) rfl R3.out Y3.out (by omega) HGW.out (fun e => by cases e) (j + 1) rfl ?_
      intro A9 c9 w9 O9 g9 o9
      have B9 : Hid ((Value.slice A9 (j + 1) c9).ownBlock ≠ some g ∧ (Value.slice A9 (j + 1) c9).ownBlock ≠ some (g + 1)) := Lib.hid (by
        rcases o9 with o9 | o9
        · rw [o9]; exact hB.out
        · rw [o9]
          have := A2.out.lt
          exact ⟨(fun e => by injection e with e; omega), (fun e => by injection e with e; omega)⟩)
      have A9' := Lib.hid (A2.out.grown g9 (fun e => hB.out.2 e.symm))
      have X9 := Lib.hid (X2.out.grown g9 (fun e => hB.out.1 e.symm))
      have T9 := Lib.hid (T2.out.grown g9 T2.out.size (fun b e => by have := (World.ownsRow.lt O2.out.row b e).1; have := HG.out; omega))
      have x9 : w9.cell? ⟨g, 1, none⟩ = some (.int .i64 n) := X9.out.cell 1
      have O9' := Lib.hid O9
      refine hK _ _ x9 (fun _ => ?_)
      clear hK K O9 g9 o9 O2 A2 X2 T2 R3 Y3 x2
      refine wpAnyH_take (i := 11) (v := .slice A9 (j + 1) c9) rfl (by kernel_rfl) (by kernel_rfl) (by kernel_rfl) (fun _ _ _ h => h) (Or.inl ⟨by kernel_rfl, fun w _ => by go_simp⟩) x9 ?_
      simp only [Act.put, List.getElem_toArray, List.getElem_cons_zero, List.getElem_cons_succ, List.setIfInBounds_toArray, List.set_cons_zero, List.set_cons_succ]
      refine wpAnyH_done (by kernel_rfl) ?_ _
      go_simp
      go_wp2_with fail
      exact ⟨⟨j + 1, A9, c9, _, _, by omega, rfl, by rw [HQ.out]; go_num, O9', S2, B9, X9, A9', T9⟩, by rw [HQ.out]; simp [intOf]; omega⟩
    · obtain ⟨m, hm⟩ : ∃ m, m = tn + 1 - a0 := ⟨_, rfl⟩
      obtain rfl : j = m := by omega
      have d1 : ¬ ((a0 + j : Nat) : Int) ≤ (tn : Int) := by omega
      have HM := Lib.hid hm
      obtain ⟨q, hq⟩ : ∃ q, q = a0 + j := ⟨_, rfl⟩
      rw [← hq] at d1 ⊢
      have hs768 : s ≤ 768 := hl
      have hj9 : j ≤ 9 := by omega
      have HLN : Hid (cs.length = j) := Lib.hid (by rw [hS.out.len.1]; unfold chunkC; rw [List.length_map, List.length_range'])
      obtain ⟨sn, hsn⟩ : ∃ sn, sn = numC s := ⟨_, rfl⟩
      obtain ⟨wn, hwn⟩ : ∃ wn, wn = numC l.length := ⟨_, rfl⟩
      have hs6 : sn ≤ 6 := by rw [hsn]; unfold numC; omega
      have hw6 : wn ≤ 6 := by rw [hwn]; unfold numC; omega
      have KS : Hid (∀ w, Calls Try.prog 56 #[.int .i64 (s : Int)] w fun e w' => e = .returned (.int .i64 (sn : Int)) ∧ w = w') := Lib.hid (fun w => by
        have := chunks_any (s : Int) (by omega) w
        rwa [chunks_num (by omega), ← hsn] at this)
      have KW : Hid (∀ w, Calls Try.prog 56 #[.int .i64 sz] w fun e w' => e = .returned (.int .i64 (wn : Int)) ∧ w = w') := Lib.hid (fun w => by
        have := chunks_any sz (by rw [HSZ.out]; omega) w
        rwa [HSZ.out, chunks_num (by omega), ← hwn, ← HSZ.out] at this)
      have KG : Hid (∀ w, Calls Try.prog 55 #[.int .i64 n, .int .i64 ((sn : Int) + 1), .int .i64 (wn : Int)] w fun e w' => ∃ A c m, Hid (m = wn + 1 - (sn + 1) ∧ (m = 0 → A = none)) ∧ e = .returned (.slice A m c) ∧ ∃ cs ls, ChOwn w' w.heap.size (.slice A m c) cs ls ∧ saysC cs ls (goneC n (sn + 1) m) ∧ Below w.heap.size w w') := Lib.hid (fun w => gone_any n (sn + 1) wn w hn (by omega) (by omega))
      have HSW := Lib.hid (And.intro hsn hwn)
      have gd : wr.grownBy wr.drew none := ⟨rfl, rfl, rfl, Nat.le_refl _, fun _ _ _ => rfl⟩
      have x1d : wr.drew.cell? ⟨g, 1, none⟩ = some (.int .i64 n) := hX.out.cell 1
      have x2d : wr.drew.cell? ⟨g, 2, none⟩ = some (.int .i64 sz) := hX.out.cell 2
      have XS : wr.drew.cell? ⟨g, 1, none⟩ = some (.int .i64 n) ∧ wr.drew.cell? ⟨g, 2, none⟩ = some (.int .i64 sz) := ⟨x1d, x2d⟩
      have D0 : Hid (Below w.heap.size w wr.drew) := Lib.hid hT.out.drew
      have O0 := Lib.hid (show ChOwn wr.drew g (.slice A j c) cs ls from ⟨World.ownsRow.kept hO.out.row gd (by cases (Value.slice A j c).ownBlock <;> simp), hO.out.len, fun i x hx => ((hO.out.bods i x hx).grown gd (by simp))⟩)
      have X0 : Hid (Blk wr.drew g 101 [.pointer (some ⟨i.q, 0, none⟩), .int .i64 n, .int .i64 sz]) := Lib.hid hX.out
      have A0 : Hid (Blk wr.drew (g + 1) 105 (bv L)) := Lib.hid hA.out
      clear hm hq hsn hwn hO hX hA hT gd x1d x2d
      go_wp2_with (first
        | (go_at_call 56; (with_reducible refine (KT.out _).mono ?_); rintro e w2 ⟨rfl, rfl⟩))
      obtain ⟨Wd, hWd⟩ : ∃ Wd, Wd = wr.drew := ⟨_, rfl⟩
      refine wp_region_held_drew (S := (fun w' => w'.cell? ⟨g, 1, none⟩ = some (.int .i64 n) ∧ w'.cell? ⟨g, 2, none⟩ = some (.int .i64 sz))) (by kernel_rfl) XS (fun _ => ?_)
      rw [← hWd] at XS D0 O0 X0 A0 ⊢
      clear hWd
      refine wpAnyH_take (i := 0) (v := .slice A j c) rfl (by kernel_rfl) (by kernel_rfl) (by kernel_rfl) (fun _ _ _ h => h) (Or.inl ⟨by kernel_rfl, fun w _ => by go_simp⟩) XS ?_
      simp only [Act.put, List.getElem_toArray, List.getElem_cons_zero, List.setIfInBounds_toArray, List.set_cons_zero, List.set_cons_succ]
      refine wpAnyH_take (i := 1) (v := .pointer (some ⟨g, 1, none⟩)) rfl (by kernel_rfl) (by kernel_rfl) (by kernel_rfl) (fun _ _ _ h => h) (Or.inl ⟨by kernel_rfl, fun w _ => by go_simp⟩) XS ?_
      simp only [Act.put, List.getElem_toArray, List.getElem_cons_zero, List.getElem_cons_succ, List.setIfInBounds_toArray, List.set_cons_zero, List.set_cons_succ]
      refine wpAnyH_take (i := 2) (v := .int .i64 n) rfl (by kernel_rfl) (by kernel_rfl) (by kernel_rfl) (fun _ _ _ h => h) (yields_one (ty := 3) (fun w => by kernel_rfl) (.tmp 44) (by kernel_rfl) (by kernel_rfl) (by kernel_rfl) (fun w h => h.1)) XS ?_
      simp only [Act.put, List.getElem_toArray, List.getElem_cons_zero, List.getElem_cons_succ, List.setIfInBounds_toArray, List.set_cons_zero, List.set_cons_succ]
      refine wpAnyH_take (i := 3) (v := .int .i64 (s : Int)) rfl (by kernel_rfl) (by kernel_rfl) (by kernel_rfl) (fun _ _ _ h => h) (Or.inl ⟨by kernel_rfl, fun w _ => by go_simp⟩) XS ?_
      simp only [Act.put, List.getElem_toArray, List.getElem_cons_zero, List.getElem_cons_succ, List.setIfInBounds_toArray, List.set_cons_zero, List.set_cons_succ]
      refine wpAnyH_take (i := 6) (v := .pointer (some ⟨g, 2, none⟩)) rfl (by kernel_rfl) (by kernel_rfl) (by kernel_rfl) (fun _ _ _ h => h) (Or.inl ⟨by kernel_rfl, fun w _ => by go_simp⟩) XS ?_
      simp only [Act.put, List.getElem_toArray, List.getElem_cons_zero, List.getElem_cons_succ, List.setIfInBounds_toArray, List.set_cons_zero, List.set_cons_succ]
      refine wpAnyH_take (i := 7) (v := .int .i64 sz) rfl (by kernel_rfl) (by kernel_rfl) (by kernel_rfl) (fun _ _ _ h => h) (yields_one (ty := 3) (fun w => by kernel_rfl) (.tmp 49) (by kernel_rfl) (by kernel_rfl) (by kernel_rfl) (fun w h => h.2)) XS ?_
      simp only [Act.put, List.getElem_toArray, List.getElem_cons_zero, List.getElem_cons_succ, List.setIfInBounds_toArray, List.set_cons_zero, List.set_cons_succ]
      have hwr : IntKind.i64.wrap ((sn : Int) + 1) = (sn : Int) + 1 := by
        rw [IntKind.wrap_i64]
        omega
      refine wpAnyH_ready (rs := [4]) (by kernel_rfl) (by simp) (AllReadyH.cons rfl (fun K hK => ?_) AllReadyH.nil)
      go_simp
      (with_reducible refine (KS.out _).mono ?_); rintro e w2 ⟨rfl, rfl⟩
      refine hK _ _ XS (fun _ => ?_)
      clear hK K
      refine wpAnyH_take (i := 5) (v := .int .i64 ((sn : Int) + 1)) rfl (by kernel_rfl) (by kernel_rfl) (by kernel_rfl) (fun _ _ _ h => h) (Or.inl ⟨by kernel_rfl, fun w _ => by go_simp⟩) XS ?_
      simp only [Act.put, List.getElem_toArray, List.getElem_cons_zero, List.getElem_cons_succ, List.setIfInBounds_toArray, List.set_cons_zero, List.set_cons_succ]
      refine wpAnyH_ready (rs := [8]) (by kernel_rfl) (by simp) (AllReadyH.cons rfl (fun K hK => ?_) AllReadyH.nil)
      go_simp
      (with_reducible refine (KW.out _).mono ?_); rintro e w2 ⟨rfl, rfl⟩
      refine hK _ _ XS (fun _ => ?_)
      clear hK K
      clear KS KW KT
      refine wpAnyH_ready (rs := [9]) (by kernel_rfl) (by simp) (AllReadyH.cons rfl (fun K hK => ?_) AllReadyH.nil)
      go_simp
      (with_reducible refine (KG.out _).mono ?_); rintro e w5 ⟨A5, c5, m5, hm5, rfl, cs5, ls5, O5, S5, b5⟩
      have XS5 : w5.cell? ⟨g, 1, none⟩ = some (.int .i64 n) ∧ w5.cell? ⟨g, 2, none⟩ = some (.int .i64 sz) := ⟨(X0.out.after b5).cell 1, (X0.out.after b5).cell 2⟩
      refine hK _ _ XS5 (fun _ => ?_)
      clear hK K
      have L5 : Hid (cs5.length = m5) := Lib.hid (by rw [S5.len.1]; unfold goneC; rw [List.length_map, List.length_range'])
      have HM5 := Lib.hid hm5.out.1
      have R5 := Lib.hid (O5.rowsX_of (fun h => hm5.out.2 (by rw [← L5.out]; exact h)))
      have GL : Hid (g ≤ Wd.heap.size) := Lib.hid (by have := A0.out.lt; omega)
      have BS5 : Hid (BodS w5 (fun b => g ≤ b ∧ b < w5.heap.size ∧ (Value.slice A j c).ownBlock ≠ some b) cs5 ls5) := Lib.hid ⟨O5.len, fun k x hx => (O5.bods k x hx).more (fun b hb => ⟨Nat.le_trans GL.out hb.1, hb.2.1, fun e => by have := (World.ownsRow.lt O0.out.row b e).2; have := hb.1; omega⟩)⟩
      have OC5 := Lib.hid (O0.out.below b5)
      have X5 := Lib.hid (X0.out.after b5)
      have A5' := Lib.hid (A0.out.after b5)
      have T5 := Lib.hid (D0.out.trans (b5.mono D0.out.size))
      have NC5 := Lib.hid (fun e : A5 = none => O5.nilc e)
      have SC5 := Lib.hid (hS.out.app S5)
      have G5 : Hid (g ≤ w5.heap.size) := Lib.hid (Nat.le_trans GL.out b5.size)
      have M5 : m5 ≤ 10 := by have := HM5.out; omega
      clear hm5 O5 S5 b5 XS O0 X0 A0 D0
      refine wpAnyH_ready (rs := [10]) (by kernel_rfl) (by simp) (AllReadyH.cons rfl (fun K hK => ?_) AllReadyH.nil)
      refine step_app_chs (by kernel_rfl) (.tmp 43) (.tmp 52) (by kernel_rfl) (by kernel_rfl) OC5.out HLN.out (by kernel_rfl) L5.out R5.out BS5.out (by omega) G5.out NC5.out (j + m5) rfl ?_
      intro A9 c9 w9 O9 g9 o9
      have X9 := Lib.hid (X5.out.grown g9 (fun e => hB.out.1 e.symm))
      have T9 := Lib.hid (T5.out.grown g9 T5.out.size (fun b e => by have := (World.ownsRow.lt OC5.out.row b e).1; have := HG.out; omega))
      have XS9 : w9.cell? ⟨g, 1, none⟩ = some (.int .i64 n) ∧ w9.cell? ⟨g, 2, none⟩ = some (.int .i64 sz) := ⟨X9.out.cell 1, X9.out.cell 2⟩
      have O9' := Lib.hid O9
      have G9 : Hid (g ≤ w9.heap.size) := Lib.hid (Nat.le_trans G5.out g9.size)
      have B9 : Hid ((Value.slice A9 (j + m5) c9).ownBlock ≠ some g) := Lib.hid (by
        rcases o9 with o9 | o9
        · rw [o9]; exact hB.out.1
        · rw [o9]
          have := X5.out.lt
          exact (fun e => by injection e with e; omega))
      refine hK _ _ XS9 (fun _ => ?_)
      clear hK K O9 g9 o9 OC5 X5 A5' T5 NC5 R5 BS5 XS5
      refine wpAnyH_take (i := 11) (v := .slice A9 (j + m5) c9) rfl (by kernel_rfl) (by kernel_rfl) (by kernel_rfl) (fun _ _ _ h => h) (Or.inl ⟨by kernel_rfl, fun w _ => by go_simp⟩) XS9 ?_
      simp only [Act.put, List.getElem_toArray, List.getElem_cons_zero, List.getElem_cons_succ, List.setIfInBounds_toArray, List.set_cons_zero, List.set_cons_succ]
      refine wpAnyH_done (by kernel_rfl) ?_ _
      go_simp
      have y0 : w9.cell? ⟨g, 0, none⟩ = some (.pointer (some ⟨i.q, 0, none⟩)) := X9.out.cell 0
      have y1 := XS9.1
      have y2 := XS9.2
      clear XS9
      have HHF9 := Lib.hid (putC_apply HH.out.ok HHF.out (new := new) (a := a0) (b := tn) (by rw [← HSN.out]; exact hl) ha1 (by have := HSW.out.1; have := HTN.out.1; rw [← HSN.out, ← HSW.out.1, HSW.out.1]; unfold numC; omega) (fun k h1 h2 h3 => HS.out k h1 h2 (by omega)))
      have HGD := Lib.hid (putC_good hn (new := new) (a := a0) (b := tn) (was := l.length) ha1 (by rw [← HSN.out, ← HSW.out.1, HSW.out.1]; have := HTN.out.1; unfold numC; omega) (by rw [← HSN.out]; exact hl) hl2)
      have HOK := Lib.hid (FS.put_ok HH.out.ok hn (l := new) (by rw [← HSN.out]; exact hl))
      have HLE := Lib.hid (putC_len n new a0 tn l.length ha1 ht6 hl2)
      have HPC : Hid (chunkC n new a0 j ++ goneC n (sn + 1) m5 ++ headC n new l.length = putC n new a0 tn l.length) := Lib.hid (by
        unfold putC
        rw [HM.out, HM5.out, ← HSN.out, ← HSW.out.1, ← HSW.out.2])
      by_cases hsz : (s : Int) = sz
      · have hh : headC n new l.length = [] := by
          unfold headC
          rw [if_pos (by have := HSN.out; have := HSZ.out; omega)]
        have SC9 : Hid (saysC (cs ++ cs5) (ls ++ ls5) (putC n new a0 tn l.length)) := Lib.hid (by
          rw [← HPC.out, hh, List.append_nil]
          exact SC5.out)
        have KP := Lib.hid (putR_of T9.out HLE.out (put_fat i N F (F.put n (some (.file new))) S (.slice A9 (j + m5) c9) (cs ++ cs5) (ls ++ ls5) _ w9 (HH.out.after T9.out) O9'.out.rows ⟨O9'.out.len, fun k x hx => (O9'.out.bods k x hx).bytes (fun b hb => hb.2.1)⟩ SC9.out HGD.out (by have := HLE.out; omega) (by omega) HHF9.out HOK.out))
        clear HHF9 HGD HOK HLE HPC SC9 SC5 O9' HH HHF
        go_wp2_with fail
        refine KP.out.mono ?_
        rintro e w' (⟨h1, rfl, h2⟩ | ⟨h1, rfl, h2⟩)
        · go_wp2_with fail
          go_ret
          exact .inl ⟨h1, rfl, h2⟩
        · go_wp2_with fail
          go_ret
          exact .inr ⟨h1, rfl, h2⟩
      · have hh : headC n new l.length = [(8 * n, some (FI.head (.file new)))] := by
          unfold headC
          rw [if_neg (by have := HSN.out; have := HSZ.out; omega)]
        have hne : ¬ ((s : Int) = sz) := hsz
        have hhb : FI.head (.file new) = (FI.ino (.file new)).bytes := head_bytes (fun l' e => by cases e; rw [← HSN.out]; exact hl)
        have KI := Lib.hid (write_file ⟨1, (s : Int), []⟩ (.slice none 0 0) w9 (Ents.nil 0 (Nat.zero_le _)) ⟨rfl, Int.natCast_nonneg _, by show (s : Int) ≤ 768; omega, rfl⟩)
        have hib : IN.bytes ⟨1, (s : Int), []⟩ = FI.head (.file new) := by rw [hhb, HSN.out]; rfl
        rw [hib] at KI
        obtain ⟨hd, hhd⟩ : ∃ hd, hd = FI.head (.file new) := ⟨_, rfl⟩
        have HHL : Hid (hd.length ≤ 100000) := Lib.hid (by rw [hhd]; have := FI.head_len (.file new); omega)
        obtain ⟨hlen, hhl⟩ : ∃ hlen, hlen = hd.length := ⟨_, rfl⟩
        rw [← hhd] at KI hh
        have HHn := Lib.hid hhl
        rw [← hhl] at KI
        have KK0 := Lib.hid (fun w => key_any n 0 w)
        rw [show keyOf n 0 = 8 * n from by unfold keyOf; rw [if_pos (by omega)]; omega] at KK0
        have HHH := Lib.hid hh
        clear hhb hib hhd hhl hh
        go_upto_region 10 with ((with_reducible refine KI.out.mono ?_); rintro e w10 ⟨gi, ci, rfl, O10, b10⟩)
        have HO10 := Lib.hid O10
        have C10 := Lib.hid (O9'.out.below b10)
        have X10 := Lib.hid (X9.out.after b10)
        have T10 := Lib.hid (T9.out.trans (b10.mono T9.out.size))
        have G10 : Hid (g ≤ w9.heap.size) := G9
        have hw : w9.heap.size ≤ w10.heap.size := b10.size
        clear O10 b10 y0 y1 y2
        have Y10 : Hid (BytesS w10 (fun b => g ≤ b ∧ b < w10.heap.size ∧ (Value.slice A9 (j + m5) c9).ownBlock ≠ some b) (.slice (some ⟨gi, 0, none⟩) hlen ci) hd) := Lib.hid (by
          have h1 := HO10.out
          rw [HHn.out] at h1 ⊢
          refine (bytesS_cut (Own.toS (S := fun b => w9.heap.size ≤ b) h1 (fun b h => h) HHL.out)).more (fun b h => ⟨?_, h.2, fun e => ?_⟩)
          · have h2 : w9.heap.size ≤ b := h.1
            have := G10.out
            omega
          · have h2 : w9.heap.size ≤ b := h.1
            have h3 := (World.ownsRow.lt O9'.out.row b e).2
            omega)
        have B11 := Lib.hid ((Below.refl w10.heap.size w10).alloc (Nat.le_refl _) (.cells #[.int .i64 (8 * n), .bool false, .slice (some ⟨gi, 0, none⟩) hlen ci] 46))
        have C11 := Lib.hid (C10.out.below B11.out)
        have R11 := Lib.hid (rowsX_one w10 ⟨8 * n, false, some ⟨gi, 0, none⟩, hlen, ci⟩)
        have X11 := Lib.hid (X10.out.after B11.out)
        have T11 := Lib.hid (T10.out.trans (B11.out.mono T10.out.size))
        have Y11 := Lib.hid (bodS_one (x := ⟨8 * n, false, some ⟨gi, 0, none⟩, hlen, ci⟩) ((Y10.out.grown (only_of_below B11.out none) (by simp)).more (S' := fun b => g ≤ b ∧ b < (w10.alloc (.cells #[.int .i64 (8 * n), .bool false, .slice (some ⟨gi, 0, none⟩) hlen ci] 46)).heap.size ∧ (Value.slice A9 (j + m5) c9).ownBlock ≠ some b) (fun b hb => ⟨hb.1, Nat.lt_of_lt_of_le hb.2.1 B11.out.size, hb.2.2⟩)))
        have L11 : Hid ((cs ++ cs5).length = j + m5) := Lib.hid (by rw [List.length_append, HLN.out, L5.out])
        have G11 : Hid (g ≤ (w10.alloc (.cells #[.int .i64 (8 * n), .bool false, .slice (some ⟨gi, 0, none⟩) hlen ci] 46)).heap.size) := Lib.hid (Nat.le_trans G10.out (Nat.le_trans hw B11.out.size))
        have S11 : Hid (saysC (cs ++ cs5 ++ [⟨8 * n, false, some ⟨gi, 0, none⟩, hlen, ci⟩]) (ls ++ ls5 ++ [hd]) (putC n new a0 tn l.length)) := Lib.hid (by
          rw [← HPC.out, HHH.out]
          exact SC5.out.snoc ⟨8 * n, false, some ⟨gi, 0, none⟩, hlen, ci⟩ hd (8 * n, some hd) rfl rfl rfl)
        have y10 : w10.cell? ⟨g, 1, none⟩ = some (.int .i64 n) := X10.out.cell 1
        clear Y10 C10 B11 HO10 hw
        go_wp2_with (first
          | (go_at_call 61; (with_reducible refine (KK0.out _).mono ?_); rintro e w2 ⟨rfl, rfl⟩)
          | (at_builtin; go_loud (refine wpl_app_chs (m := 1) (c2 := 1) rfl (.tmp 64) (.tmp 70) rfl rfl C11.out L11.out rfl rfl R11.out Y11.out (by omega) G11.out (fun e => by cases e) (j + m5 + 1) rfl ?_); intro A12 c12 w12 O12 g12 o12; have C12 := Lib.hid O12; have X12 := Lib.hid (X11.out.grown g12 (fun e => B9.out e.symm)); have T12 := Lib.hid (T11.out.grown g12 T11.out.size (fun b e => by have := (World.ownsRow.lt C11.out.row b e).1; have := HG.out; omega)); have z0 : w12.cell? ⟨g, 0, none⟩ = some (.pointer (some ⟨i.q, 0, none⟩)) := X12.out.cell 0; clear O12 g12 o12))
        have KP := Lib.hid (putR_of T12.out HLE.out (put_fat i N F (F.put n (some (.file new))) S (.slice A12 (j + m5 + 1) c12) _ _ _ w12 (HH.out.after T12.out) C12.out.rows ⟨C12.out.len, fun k x hx => (C12.out.bods k x hx).bytes (fun b hb => hb.2.1)⟩ S11.out HGD.out (by have := HLE.out; omega) (by omega) HHF9.out HOK.out))
        clear HHF9 HGD HOK HLE HPC S11 SC5 HH HHF C12 X12
        refine KP.out.mono ?_
        rintro e w' (⟨h1, rfl, h2⟩ | ⟨h1, rfl, h2⟩)
        · go_wp2_with fail
          go_ret
          exact .inl ⟨h1, rfl, h2⟩
        · go_wp2_with fail
          go_ret
          exact .inr ⟨h1, rfl, h2⟩
end Go.Proofs.Ytppodbijdhcclaa

