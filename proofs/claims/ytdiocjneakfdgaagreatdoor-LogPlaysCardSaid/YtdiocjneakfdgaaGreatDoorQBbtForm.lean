/- The contracts of Format and Open. Condition: the chip is there; few acts so far. -/
import Derived.Test.YtdiocjneakfdgaaGreatDoorQBbtFresh
import Derived.Test.YtdiocjneakfdgaaGreatDoorQBbtK
namespace Go.Proofs.YtdiocjneakfdgaaGreatDoor
open Go.RowKit
def tabPlaces : Array (Nat × Nat) := #[(0, 1), (1, 75)]
def tabZero : List Value := .pointer none :: (Lay.of 0).row
theorem zeroTab (w : World) : (zeroValue 125).run Tryz.prog w = .ok (.agg tabZero.toArray) w := by kernel_rfl
theorem tabFields : ∃ fields : Array Field, Tryz.prog.underlying 125 = some (.struct fields) ∧ ∀ w, (fields.mapM fun (f : Field) => do pure (f.offset, ← sizeOf f.type)).run Tryz.prog w = .ok tabPlaces w := ⟨_, Tryz.underlying125, fun w => by kernel_rfl⟩
theorem fill2 (r : List Value) (hr : r.length = 75) (c : Value) (hc : c.cells = #[c]) : Instr.fill (tabPlaces[·]?) tabZero.toArray [(0, c), (1, .agg r.toArray)] = some (c :: r).toArray := by
  have hZ : tabZero.length = 76 := rfl
  obtain ⟨Z, hZZ⟩ : ∃ Z, Z = tabZero := ⟨_, rfl⟩
  rw [← hZZ] at hZ ⊢
  clear hZZ
  rw [fill_cons (o := 0) (m := 1) (vs := [c]) rfl hc rfl (by omega)]
  rw [List.take_zero, List.nil_append, Nat.zero_add]
  rw [fill_cons (o := 1) (m := 75) (vs := r) rfl rfl hr (by simp; omega), seg_app (L := [c]) (o := 1) rfl]
  rw [Instr.fill, List.drop_drop, List.drop_eq_nil_of_le (by omega)]
  simp
theorem buildTab2 {r : List Value} (hr : r.length = 75) (c : Nat) (w : World) : (Instr.build 125 #[(0, .pointer (some ⟨c, 0, none⟩)), (1, .agg r.toArray)]).run Tryz.prog w = .ok (.agg (.pointer (some ⟨c, 0, none⟩) :: r).toArray) w := by
  obtain ⟨fields, h1, h2⟩ := tabFields
  have h3 := fill2 r hr (.pointer (some ⟨c, 0, none⟩)) rfl
  unfold Instr.build
  simp only [Sem.run_bind, zeroTab, Result.andThen_ok, run_underlying h1, h2]
  rw [show (Value.agg tabZero.toArray).cells = tabZero.toArray from rfl, h3]
  rfl
theorem buildTab1 (c : Nat) (w : World) : (Instr.build 125 #[(0, .pointer (some ⟨c, 0, none⟩))]).run Tryz.prog w = .ok (.agg (.pointer (some ⟨c, 0, none⟩) :: (Lay.of 0).row).toArray) w := by kernel_rfl
theorem fresh_at {n : Nat} {f : Nat → Bool} {l : Lay} (h : Lay.fresh n f = some l) (h1 : 16 ≤ n) (h2 : n ≤ 40) : l.ok ∧ l.n = n ∧ ∀ x ∈ l.at_, x < 40 := by
  unfold Lay.fresh at h
  split at h
  · cases h
  · cases h
    have h0 := Lay.mark_ok h1 h2 f n
    refine ⟨Lay.fills_ok _ h0, (Lay.fills_n _ _).trans rfl, ?_⟩
    have : ∀ j, ∀ x ∈ (Lay.fills j (Lay.mark n f n)).at_, x < 40 := fun j => by
      induction j with
      | zero =>
        intro x hx
        have := List.eq_of_mem_replicate (n := 34) hx
        omega
      | succ j ih =>
        intro x hx
        rcases List.mem_or_eq_of_mem_set hx with h | h
        · exact ih x h
        · rw [h]; exact Lay.spare_lt (Lay.fills_ok j h0)
    exact this _
/-- a pointer to a table, if there is no error -/
def tptr (er : Int) (t : Nat) : Value := if er = 0 then .pointer (some ⟨t, 0, none⟩) else .pointer none
section
variable {a : At} {S : Ch} {s : NM.Pwr} {w : World}
set_option maxRecDepth 100000 in
set_option maxHeartbeats 8000000 in
theorem format_worn (hD : Dev w a S s) (h0 : S.mayE s = 0) (hf : S.fresh = none) : Calls Tryz.prog 43 #[.pointer (some ⟨a.c, 0, none⟩)] w fun e w' => e = .returned (.tuple #[.pointer none, .int .i64 34]) ∧ Below w.heap.size w w' := by
  have z := zeroPage
  have zl := zeroLay
  have hlen := hD.pc.len
  have kr := cread_any a S s 0 0 w hD.pc hD.pw
  have e1 : NM.may s.off S.live S.bs.length 0 0 = 0 := h0
  rw [e1] at kr
  have hpl : (S.readPage 0 0 0).length = 258 := by unfold Ch.readPage; rw [if_pos rfl]; exact pageOf_length hD.pc.bg.2 (b := 0) (k := 0) (by omega) (by omega)
  obtain ⟨pg, hpg⟩ : ∃ pg, pg = S.readPage 0 0 0 := ⟨_, rfl⟩
  rw [← hpg] at kr hpl
  have HPL := Lib.hid hpl
  have HD := Lib.hid hD
  have kf := fun X hX => fresh_any a S s X hX
  rw [hf] at kf
  have KF := Lib.hid kf
  have hl0 : (Lay.of 0).row.length = 75 := rfl
  have HL0 := Lib.hid hl0
  have HLR := HL0
  have hs0 := segSet_all (hl0.trans hl0.symm)
  have hB3 : ∀ X Y, Below w.heap.size w X → (X.alloc (.cells (cl pzeros) 92)).grownBy Y (some X.heap.size) → Below w.heap.size w Y := fun X Y b g => (b.alloc b.size _).grown g (by simp; exact Nat.le_succ_of_le b.size) (fun k e => by have := Option.some.inj e; have := b.size; omega)
  clear hD e1 hpg hpl kf hl0 h0 hlen
  go_enter Tryz.func43, Tryz.ntmps43
  go_wp2_with (first
    | ((with_reducible refine kr.mono ?_); rintro e w2 ⟨rfl, b2⟩; have N2 := PArr.new w2 pzeros_length)
    | (with_reducible refine wpl_pstore (.tmp 4) (.tmp 13) rfl rfl N2 rfl HPL.out rfl ?_; intro w3 N3 g3 e3; have B3 := hB3 _ _ b2 g3; have k4 := KF.out _ (HD.out.after B3))
    | ((with_reducible refine k4.mono ?_); rintro e w4 ⟨rfl, b4⟩; have L4 := Blk.new w4 123 (Lay.of 0).row)
    | (with_reducible refine wpl_seg_store sizeLay (.tmp 6) (.tmp 21) rfl rfl L4 0 (Lay.of 0).row HLR.out (by rw [HL0.out]; exact Nat.le_refl _) (Lay.one _) rfl rfl _ hs0 ?_; intro w5 L5 g5 e5; clear e5))
  go_ret2
  exact ⟨rfl, (((B3.trans (b4.mono B3.size)).alloc (Nat.le_trans B3.size b4.size) _).grown g5 (by simp; exact Nat.le_succ_of_le (Nat.le_trans B3.size b4.size)) (fun k e => by have := Option.some.inj e; have := Nat.le_trans B3.size b4.size; omega))⟩
set_option maxRecDepth 100000 in
set_option maxHeartbeats 8000000 in
theorem format_main (l : Lay) (hD : Dev w a S s) (h0 : S.mayE s = 0) (hf : S.fresh = some l) (hsm : S.few 999700) : Calls Tryz.prog 43 #[.pointer (some ⟨a.c, 0, none⟩)] w fun e w' => ∃ t, w.heap.size ≤ t ∧ e = .returned (.tuple #[tptr (S.keep s l).2.2 t, .int .i64 (S.keep s l).2.2]) ∧ Dev w' a (S.keep s l).1 (S.keep s l).2.1 ∧ ((S.keep s l).2.2 = 0 → Tb w' t a l) ∧ Chg w w' a.all := by
  have z := zeroPage
  have zl := zeroLay
  have hlen := hD.pc.len
  have kr := cread_any a S s 0 0 w hD.pc hD.pw
  have e1 : NM.may s.off S.live S.bs.length 0 0 = 0 := h0
  rw [e1] at kr
  have hpl : (S.readPage 0 0 0).length = 258 := by unfold Ch.readPage; rw [if_pos rfl]; exact pageOf_length hD.pc.bg.2 (b := 0) (k := 0) (by omega) (by omega)
  obtain ⟨pg, hpg⟩ : ∃ pg, pg = S.readPage 0 0 0 := ⟨_, rfl⟩
  rw [← hpg] at kr hpl
  have HPL := Lib.hid hpl
  have HD := Lib.hid hD
  have kf := fun X hX => fresh_any a S s X hX
  rw [hf] at kf
  have KF := Lib.hid kf
  have hl0 : (Lay.of 0).row.length = 75 := rfl
  have HL0 := Lib.hid hl0
  obtain ⟨hlok, hln, hat⟩ := fresh_at hf hlen.1 hlen.2
  have hlr := Lay.row_length hlok
  have HLR := Lib.hid hlr
  have hs0 := segSet_all (hl0.trans hlr.symm)
  have hB3 : ∀ X Y, Below w.heap.size w X → (X.alloc (.cells (cl pzeros) 92)).grownBy Y (some X.heap.size) → Below w.heap.size w Y := fun X Y b g => (b.alloc b.size _).grown g (by simp; exact Nat.le_succ_of_le b.size) (fun k e => by have := Option.some.inj e; have := b.size; omega)
  have hB5 : ∀ X3 X4 X5, Below w.heap.size w X3 → Below X3.heap.size X3 X4 → (X4.alloc (.cells (Lay.of 0).row.toArray 123)).grownBy X5 (some X4.heap.size) → Below w.heap.size w X5 := fun X3 X4 X5 B3 b4 g5 => ((B3.trans (b4.mono B3.size)).alloc (Nat.le_trans B3.size b4.size) _).grown g5 (by simp; exact Nat.le_succ_of_le (Nat.le_trans B3.size b4.size)) (fun k e => by have := Option.some.inj e; have := Nat.le_trans B3.size b4.size; omega)
  have hK7 := fun (X : World) (b : Below w.heap.size w X) => keep_any X.heap.size a (Lay.of 0) l hlok (fun x hx => Nat.lt_trans (hat x hx) (by omega)) S s hsm (X.alloc (.cells (Value.pointer (some ⟨a.c, 0, none⟩) :: (Lay.of 0).row).toArray 125)) ⟨Blk.new X _ _, hl0, fun h => Nat.lt_irrefl _ (Nat.lt_of_lt_of_le (hD.lt _ h) b.size)⟩ (hD.after (b.alloc b.size _))
  have hy : (S.keep s l).2.2 = 0 → S.lays s (Lay.of 0) l = l := fun h => if_pos h
  have HFA := Lib.hid (fun (k : Nat) (h : a.all k) => hD.lt k h)
  obtain ⟨r, hr⟩ : ∃ r, r = S.keep s l := ⟨_, rfl⟩
  rw [← hr] at hK7 hy ⊢
  obtain ⟨l2, hl2⟩ : ∃ l2, l2 = S.lays s (Lay.of 0) l := ⟨_, rfl⟩
  rw [← hl2] at hK7 hy
  obtain ⟨Sr, sr, er⟩ := r
  simp only at hK7 hy ⊢
  have HK7 := Lib.hid hK7
  have HY := Lib.hid hy
  clear hD e1 hpg hpl kf hl0 h0 hlen hlok hln hat hlr hsm hf hr hK7 hy hl2
  by_cases he : er = 0
  · subst he
    have hy := HY.out rfl
    rw [hy] at HK7
    clear hy HY
    go_enter Tryz.func43, Tryz.ntmps43
    go_wp2_with (first
      | ((with_reducible refine kr.mono ?_); rintro e w2 ⟨rfl, b2⟩; have N2 := PArr.new w2 pzeros_length)
      | (with_reducible refine wpl_pstore (.tmp 4) (.tmp 13) rfl rfl N2 rfl HPL.out rfl ?_; intro w3 N3 g3 e3; have B3 := hB3 _ _ b2 g3; have k4 := KF.out _ (HD.out.after B3))
      | ((with_reducible refine k4.mono ?_); rintro e w4 ⟨rfl, b4⟩; have L4 := Blk.new w4 123 (Lay.of 0).row)
      | (with_reducible refine wpl_seg_store sizeLay (.tmp 6) (.tmp 21) rfl rfl L4 0 l.row HLR.out (by rw [HL0.out]; exact Nat.le_refl _) (Lay.one _) rfl rfl _ hs0 ?_; intro w5 L5 g5 e5; clear e5)
      | (with_reducible refine wpl_built [(0, .tmp 25)] [(0, .pointer (some ⟨a.c, 0, none⟩))] rfl rfl rfl (buildTab1 a.c _) ?_; have L6 := L5.alloc (.cells (Value.pointer (some ⟨a.c, 0, none⟩) :: (Lay.of 0).row).toArray 125); have B5 := hB5 _ _ _ B3 b4 g5; have k7 := HK7.out _ B5)
      | (with_reducible refine wpl_seg_load aggLay sizeLay (.tmp 6) rfl rfl L6 0 l.row (by rw [List.drop_zero, List.take_of_length_le (Nat.le_of_eq HLR.out)]) HLR.out rfl ?_)
      | ((with_reducible refine k7.mono ?_); rintro e w7 ⟨rfl, d7, t7, c7⟩))
    go_ret2
    refine ⟨w5.heap.size, B5.size, rfl, d7, fun _ => t7, ?_⟩
    have q : Chg w w7 (fun j => a.all j ∨ j = w5.heap.size) := (Chg.of_below (B5.alloc B5.size _)).trans c7
    exact q.more (fun k hk h => h.elim id (fun e => by have := B5.size; omega))
  · have d1 : (er != 0) = true := by simpa using he
    have HE := Lib.hid he
    clear he
    go_enter Tryz.func43, Tryz.ntmps43
    go_wp2_with (first
      | ((with_reducible refine kr.mono ?_); rintro e w2 ⟨rfl, b2⟩; have N2 := PArr.new w2 pzeros_length)
      | (with_reducible refine wpl_pstore (.tmp 4) (.tmp 13) rfl rfl N2 rfl HPL.out rfl ?_; intro w3 N3 g3 e3; have B3 := hB3 _ _ b2 g3; have k4 := KF.out _ (HD.out.after B3))
      | ((with_reducible refine k4.mono ?_); rintro e w4 ⟨rfl, b4⟩; have L4 := Blk.new w4 123 (Lay.of 0).row)
      | (with_reducible refine wpl_seg_store sizeLay (.tmp 6) (.tmp 21) rfl rfl L4 0 l.row HLR.out (by rw [HL0.out]; exact Nat.le_refl _) (Lay.one _) rfl rfl _ hs0 ?_; intro w5 L5 g5 e5; clear e5)
      | (with_reducible refine wpl_built [(0, .tmp 25)] [(0, .pointer (some ⟨a.c, 0, none⟩))] rfl rfl rfl (buildTab1 a.c _) ?_; have L6 := L5.alloc (.cells (Value.pointer (some ⟨a.c, 0, none⟩) :: (Lay.of 0).row).toArray 125); have B5 := hB5 _ _ _ B3 b4 g5; have k7 := HK7.out _ B5)
      | (with_reducible refine wpl_seg_load aggLay sizeLay (.tmp 6) rfl rfl L6 0 l.row (by rw [List.drop_zero, List.take_of_length_le (Nat.le_of_eq HLR.out)]) HLR.out rfl ?_)
      | ((with_reducible refine k7.mono ?_); rintro e w7 ⟨rfl, d7, t7, c7⟩))
    go_ret2
    refine ⟨w5.heap.size, B5.size, by rw [tptr, if_neg HE.out]; rfl, d7, fun h => absurd h HE.out, ?_⟩
    have q : Chg w w7 (fun j => a.all j ∨ j = w5.heap.size) := (Chg.of_below (B5.alloc B5.size _)).trans c7
    exact q.more (fun k hk h => h.elim id (fun e => by have := B5.size; omega))
theorem Kp.row_lay {k : Kp} (h : k.lay.row.length = 75) : (k.row.drop 0).take 75 = k.lay.row := by
  rw [List.drop_zero]
  unfold Kp.row
  exact List.take_left' h
theorem looked {a : At} {S : Ch} {w : World} (s : NM.Pwr) (hD : Dev w a S s) : (keptOf (S.lookK s)).row.length = 335 ∧ (keptOf (S.lookK s)).lay.row.length = 75 := by
  refine ⟨keptOf_length (lookK_ok hD.pc.bg.2 hD.pc.len.1 hD.pc.len.2), ?_⟩
  cases hf : S.lookK s with
  | none => exact Lay.zero_length
  | some k => exact Lay.row_length (lookK_ok hD.pc.bg.2 hD.pc.len.1 hD.pc.len.2 k hf).1
set_option maxRecDepth 100000 in
set_option maxHeartbeats 8000000 in
theorem open_some (hD : Dev w a S s) (h0 : S.lookE s = 0) : Calls Tryz.prog 55 #[.pointer (some ⟨a.c, 0, none⟩)] w fun e w' => ∃ t, w.heap.size ≤ t ∧ e = .returned (.tuple #[.pointer (some ⟨t, 0, none⟩), .int .i64 0]) ∧ Tb w' t a (keptOf (S.lookK s)).lay ∧ Below w.heap.size w w' := by
  have zk := zeroKept
  have k1 := look_any a S s w hD
  rw [h0] at k1
  obtain ⟨hl, hl75⟩ := looked s hD
  have HFA := Lib.hid (fun (k : Nat) (h : a.all k) => hD.lt k h)
  obtain ⟨kp, hkp⟩ : ∃ kp, kp = keptOf (S.lookK s) := ⟨_, rfl⟩
  rw [← hkp] at k1 hl hl75 ⊢
  have hzk := Kp.zero_length
  have hsK := segSet_all (hzk.trans hl.symm)
  have HKL := Lib.hid hl
  have H75 := Lib.hid hl75
  have HZ := Lib.hid hzk
  clear hD h0 hkp hzk hl hl75
  go_enter Tryz.func55, Tryz.ntmps55
  go_wp2_with (first
    | ((with_reducible refine k1.mono ?_); rintro e w2 ⟨rfl, b2⟩; have K2 := Blk.new w2 159 Kp.zero.row)
    | (with_reducible refine wpl_seg_store sizeKept (.tmp 4) (.tmp 9) rfl rfl K2 0 kp.row HKL.out (by rw [HZ.out]; exact Nat.le_refl _) (Kp.one _) rfl rfl _ hsK ?_; intro w3 K3 g3 e3; clear e3)
    | (with_reducible refine wpl_seg_load aggLay sizeLay (.tmp 15) rfl rfl K3 0 kp.lay.row (Kp.row_lay H75.out) H75.out rfl ?_)
    | (with_reducible refine wpl_built [(0, .tmp 14), (1, .tmp 16)] [(0, .pointer (some ⟨a.c, 0, none⟩)), (1, .agg kp.lay.row.toArray)] rfl rfl rfl (buildTab2 H75.out a.c _) ?_))
  go_ret2
  have B3 : Below w.heap.size w w3 := (b2.alloc b2.size _).grown g3 (by simp; exact Nat.le_succ_of_le b2.size) (fun k e => by have := Option.some.inj e; have := b2.size; omega)
  exact ⟨w3.heap.size, B3.size, rfl, ⟨Blk.new w3 _ _, H75.out, fun h => Nat.lt_irrefl _ (Nat.lt_of_lt_of_le (HFA.out _ h) B3.size)⟩, B3.alloc B3.size _⟩
end
end Go.Proofs.YtdiocjneakfdgaaGreatDoor

