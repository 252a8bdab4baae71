/- Several texts of the proof, joined: what each has is said at its head. -/
import Derived.Test.YtdiocjneakfdgaaGreatDoorQBbtLook
import Derived.Test.YtdiocjneakfdgaaGreatDoorQBbtFact
/- The contract of keep. Condition: the chip is there; few acts so far. -/
namespace Go.Proofs.YtdiocjneakfdgaaGreatDoor
open Go.RowKit
theorem look_any (a : At) (S : Ch) (s : NM.Pwr) (w : World) (hD : Dev w a S s) :
    Calls Tryz.prog 80 #[.pointer (some ⟨a.c, 0, none⟩)] w fun e w' => e = .returned (.tuple #[.agg (keptOf (S.lookK s)).row.toArray, .int .i64 (S.lookE s)]) ∧ Below w.heap.size w w' := by
  by_cases h : S.mayE s = 0
  · have k := look_on a S s w hD h
    unfold Ch.lookK Ch.lookE
    rw [if_pos h, if_pos h]
    exact k
  · have k := look_off a S s w hD h
    unfold Ch.lookK Ch.lookE
    rw [if_neg h, if_neg h]
    exact k
theorem lookTo_blk (bs : List Bk) : ∀ i, i ≤ 16 → ∀ k, lookTo bs i = some k → k.blk < 2
  | 0, _, k, h => by cases h
  | i + 1, hi, k, h => by
    have ih := lookTo_blk bs i (by omega)
    unfold lookTo lookAt pickK at h
    cases ht : tableOf bs.length (pageOf bs (i / 8) (i % 8)) with
    | none => rw [ht] at h; exact ih k h
    | some x =>
      rw [ht] at h
      cases hf : lookTo bs i with
      | none => rw [hf] at h; simp only [Option.some.injEq] at h; subst h; show i / 8 < 2; omega
      | some q =>
        rw [hf] at h
        simp only at h
        split at h
        · simp only [Option.some.injEq] at h; subst h; show i / 8 < 2; omega
        · exact ih k (by rw [hf]; exact h)
theorem lookK_ok {S : Ch} {s : NM.Pwr} (hb : ∀ x ∈ S.bs, x.ok) (h1 : 16 ≤ S.bs.length) (h2 : S.bs.length ≤ 40) : ∀ k, S.lookK s = some k → k.ok := fun k h => by
  unfold Ch.lookK at h
  split at h
  · exact lookTo_ok hb h1 h2 16 (Nat.le_refl _) k h
  · cases h
theorem lookK_blk (S : Ch) (s : NM.Pwr) : (keptOf (S.lookK s)).blk < 2 := by
  cases h : S.lookK s with
  | none => show (0 : Nat) < 2; omega
  | some k =>
    unfold Ch.lookK at h
    split at h
    · exact lookTo_blk S.bs 16 (Nat.le_refl _) k h
    · cases h
def next64 (n : Nat) : Nat := (n + 1) % 18446744073709551616
/-- what keep does, and answers -/
def Ch.keep (S : Ch) (s : NM.Pwr) (l : Lay) : Ch × NM.Pwr × Int :=
  if S.lookE s ≠ 0 ∧ S.lookE s ≠ 35 then (S, s, S.lookE s)
  else if (S.place s (1 - ((keptOf (S.lookK s)).blk : Int)) (tpage (next64 (keptOf (S.lookK s)).num) l)).2.2 ≠ 0 then S.place s (1 - ((keptOf (S.lookK s)).blk : Int)) (tpage (next64 (keptOf (S.lookK s)).num) l)
  else Ch.wipes 8 (S.place s (1 - ((keptOf (S.lookK s)).blk : Int)) (tpage (next64 (keptOf (S.lookK s)).num) l)).1 (S.place s (1 - ((keptOf (S.lookK s)).blk : Int)) (tpage (next64 (keptOf (S.lookK s)).num) l)).2.1 ((keptOf (S.lookK s)).blk : Int)
/-- the layout that the table has behind keep -/
def Ch.lays (S : Ch) (s : NM.Pwr) (l l' : Lay) : Lay := if (S.keep s l').2.2 = 0 then l' else l
theorem few_keep (S : Ch) (s : NM.Pwr) (l : Lay) (n : Nat) (h : S.few n) : (S.keep s l).1.few (n + 24) := by
  unfold Ch.keep
  split
  · exact few_le (by omega) h
  · split
    · exact few_le (by omega) (few_place S s _ _ n h)
    · exact few_wipes 8 _ _ _ (n + 16) (few_place S s _ _ n h)
theorem next_wrap (n : Nat) : IntKind.u64.wrap ((n : Int) + 1) = ((next64 n : Nat) : Int) := by
  rw [IntKind.wrap_u64]
  unfold next64
  omega
theorem sub_wrap {b : Nat} (h : b < 2) : IntKind.i64.wrap (1 - (b : Int)) = 1 - (b : Int) := by
  rcases (show b = 0 ∨ b = 1 by omega) with rfl | rfl <;> rfl
theorem tb_seg {p : Value} {l l' : Lay} (h : l.row.length = 75) (h' : l'.row.length = 75) : segSet (p :: l.row) 1 l'.row = p :: l'.row := by
  simp [segSet, h, h']
theorem Kp.row_num {k : Kp} (h : k.lay.row.length = 75) : k.row[75]? = some (.int .u64 (k.num : Int)) := by
  unfold Kp.row
  rw [List.getElem?_append_right (by omega), h]
  rfl
theorem Kp.row_blk {k : Kp} (h : k.lay.row.length = 75) : k.row[76]? = some (.int .i64 (k.blk : Int)) := by
  unfold Kp.row
  rw [List.getElem?_append_right (by omega), h]
  rfl
set_option maxRecDepth 100000 in
set_option maxHeartbeats 16000000 in
theorem keep_any (t : Nat) (a : At) (l l' : Lay) (hl' : l'.ok) (hat : ∀ x ∈ l'.at_, x < 1000) (S : Ch) (s : NM.Pwr) (hsm : S.few 999700) (w : World) (hT : Tb w t a l) (hD : Dev w a S s) :
    Calls Tryz.prog 67 #[.pointer (some ⟨t, 0, none⟩), .agg l'.row.toArray] w fun e w' => e = .returned (.int .i64 (S.keep s l').2.2) ∧ Dev w' a (S.keep s l').1 (S.keep s l').2.1 ∧ Tb w' t a (S.lays s l l') ∧ Chg w w' (fun j => a.all j ∨ j = t) := by
  have zk := zeroKept
  have b0 : Below w.heap.size w (w.alloc (.cells l'.row.toArray 123)) := (Below.refl _ _).alloc (Nat.le_refl _) _
  have L0 := Blk.new w 123 l'.row
  have D0 := hD.after b0
  have T0 := hT.after b0
  have k1 := look_any a S s _ D0
  have hkl := keptOf_length (lookK_ok (s := s) hD.pc.bg.2 hD.pc.len.1 hD.pc.len.2)
  have hl75 : (keptOf (S.lookK s)).lay.row.length = 75 := by
    cases hf : S.lookK s with
    | none => exact Lay.zero_length
    | some k => exact Lay.row_length (lookK_ok hD.pc.bg.2 hD.pc.len.1 hD.pc.len.2 k hf).1
  have hb2 := lookK_blk S s
  have c0 := T0.chip
  have HK : S.keep s l' = if S.lookE s ≠ 0 ∧ S.lookE s ≠ 35 then (S, s, S.lookE s)
    else if (S.place s (1 - ((keptOf (S.lookK s)).blk : Int)) (tpage (next64 (keptOf (S.lookK s)).num) l')).2.2 ≠ 0 then S.place s (1 - ((keptOf (S.lookK s)).blk : Int)) (tpage (next64 (keptOf (S.lookK s)).num) l')
    else Ch.wipes 8 (S.place s (1 - ((keptOf (S.lookK s)).blk : Int)) (tpage (next64 (keptOf (S.lookK s)).num) l')).1 (S.place s (1 - ((keptOf (S.lookK s)).blk : Int)) (tpage (next64 (keptOf (S.lookK s)).num) l')).2.1 ((keptOf (S.lookK s)).blk : Int) := rfl
  obtain ⟨kp, hkp⟩ : ∃ kp, kp = keptOf (S.lookK s) := ⟨_, rfl⟩
  obtain ⟨er, her⟩ : ∃ er, er = S.lookE s := ⟨_, rfl⟩
  rw [← hkp] at k1 hkl hl75 hb2 HK
  rw [← her] at k1 HK
  have HB := Lib.hid b0
  have HL := Lib.hid L0
  have HDW := Lib.hid hD
  have HTW := Lib.hid hT
  have HF := Lib.hid hsm
  have HA := Lib.hid hat
  have HOK := Lib.hid hl'
  have HKL := Lib.hid hkl
  have HL75 := Lib.hid hl75
  have HB2 := Lib.hid hb2
  have hzk := Kp.zero_length
  have hsK := segSet_all (hzk.trans hkl.symm)
  have HZ := Lib.hid hzk
  have htw : Hid (t ≠ w.heap.size) := Lib.hid (Nat.ne_of_lt hT.blk.lt)
  have hnt : Hid (t ≠ 0) := Lib.hid (by
    rintro rfl
    have h1 := hT.chip
    rw [hD.tab 0 (by omega)] at h1
    cases h1)
  have hc6 : ∀ (X : World) (g : Nat), Blk X g 159 kp.row → X.cell? ⟨g, 76, none⟩ = some (.int .i64 (kp.blk : Int)) ∧ X.cell? ⟨g, 75, none⟩ = some (.int .u64 (kp.num : Int)) := fun X g h => ⟨(h.cell 76).trans (Kp.row_blk hl75), (h.cell 75).trans (Kp.row_num hl75)⟩
  have HC6 := Lib.hid hc6
  clear b0 L0 D0 T0 hD hT hsm hat hl' hkp her hkl hl75 hzk hb2 hc6
  by_cases hA : er ≠ 0 ∧ er ≠ 35
  · have d1 : (er != 0) = true := by simpa using hA.1
    have d2 : (er != 35) = true := by simpa using hA.2
    have HE := Lib.hid hA
    have HK2 := Lib.hid (HK.trans (if_pos hA))
    clear hA HK
    go_enter Tryz.func67, Tryz.ntmps67
    go_wp2_with (first
      | ((with_reducible refine k1.mono ?_); rintro e w1 ⟨rfl, b1⟩; have K1 := Blk.new w1 159 Kp.zero.row)
      | (with_reducible refine wpl_seg_store sizeKept (.tmp 5) (.tmp 15) rfl rfl K1 0 kp.row HKL.out (by rw [HZ.out]; exact Nat.le_refl _) (Kp.one _) rfl rfl _ hsK ?_; intro w2 K2 g2 e2))
    have hsz1 : Hid (w.heap.size < w1.heap.size) := Lib.hid (Nat.lt_of_lt_of_le (HL.out.lt) b1.size)
    have B2 : Hid (Below w.heap.size w w2) := Lib.hid (((HB.out.trans (b1.mono HB.out.size)).alloc (Nat.le_trans HB.out.size b1.size) _).grown g2 (by simp; have := hsz1.out; omega) (fun k e => by have := Option.some.inj e; have := hsz1.out; omega))
    have L2 : Hid (Blk w2 w.heap.size 123 l'.row) := Lib.hid (((HL.out.after b1).alloc _).grown g2 (by have := hsz1.out; simp; omega))
    have hck := Lib.hid (HC6.out _ _ K2)
    have hK2l : Hid (w1.heap.size < w2.heap.size) := Lib.hid K2.lt
    have D2 := Lib.hid (HDW.out.after B2.out)
    have T2 := Lib.hid (HTW.out.after B2.out)
    go_ret
    have hy : S.lays s l l' = l := by unfold Ch.lays; rw [HK2.out]; exact if_neg HE.out.1
    rw [HK2.out, hy]
    exact ⟨rfl, D2.out, T2.out, Chg.of_below B2.out⟩
  · have HK2 := HK.trans (if_neg hA)
    have hB : er = 0 ∨ er = 35 := by omega
    have kw := fun X hX => twrite_any (next64 kp.num) l' HOK.out HA.out X hX
    have kp2 := fun X hT hD => place_any t a l S s (1 - (kp.blk : Int)) (tpage (next64 kp.num) l') (tpage_length HOK.out) (few_le (by omega) HF.out) X hT hD
    have hfw := few_place S s (1 - (kp.blk : Int)) (tpage (next64 kp.num) l') _ HF.out
    obtain ⟨r, hr⟩ : ∃ r, r = S.place s (1 - (kp.blk : Int)) (tpage (next64 kp.num) l') := ⟨_, rfl⟩
    rw [← hr] at kp2 hfw HK2
    obtain ⟨Sr, sr, e2⟩ := r
    simp only at kp2 hfw HK2
    have kv := fun X hT hD => wipe_any t a l Sr sr (kp.blk : Int) (few_le (by omega) hfw) X hT hD
    obtain ⟨q, hq⟩ : ∃ q, q = Ch.wipes 8 Sr sr (kp.blk : Int) := ⟨_, rfl⟩
    rw [← hq] at kv HK2
    obtain ⟨Sq, sq, e3⟩ := q
    simp only at kv
    have HK3 := Lib.hid HK2
    obtain ⟨pg, hpg⟩ : ∃ pg, pg = tpage (next64 kp.num) l' := ⟨_, rfl⟩
    rw [← hpg] at kw kp2
    have KW := Lib.hid kw
    have KP := Lib.hid kp2
    have KV := Lib.hid kv
    have HNW := Lib.hid (next_wrap kp.num)
    have HLL := Lib.hid (Lay.row_length HOK.out)
    clear hr hq HK HK2 hfw hA hpg kw kp2 kv
    rcases hB with rfl | rfl
    · go_enter Tryz.func67, Tryz.ntmps67
      go_wp2_with (first
        | ((with_reducible refine k1.mono ?_); rintro e w1 ⟨rfl, b1⟩; have K1 := Blk.new w1 159 Kp.zero.row)
        | (with_reducible refine wpl_seg_store sizeKept (.tmp 5) (.tmp 15) rfl rfl K1 0 kp.row HKL.out (by rw [HZ.out]; exact Nat.le_refl _) (Kp.one _) rfl rfl _ hsK ?_; intro w2 K2 g2 e2))
      have hsz1 : Hid (w.heap.size < w1.heap.size) := Lib.hid (Nat.lt_of_lt_of_le (HL.out.lt) b1.size)
      have B2 : Hid (Below w.heap.size w w2) := Lib.hid (((HB.out.trans (b1.mono HB.out.size)).alloc (Nat.le_trans HB.out.size b1.size) _).grown g2 (by simp; have := hsz1.out; omega) (fun k e => by have := Option.some.inj e; have := hsz1.out; omega))
      have L2 : Hid (Blk w2 w.heap.size 123 l'.row) := Lib.hid (((HL.out.after b1).alloc _).grown g2 (by have := hsz1.out; simp; omega))
      have hck := Lib.hid (HC6.out _ _ K2)
      have hK2l : Hid (w1.heap.size < w2.heap.size) := Lib.hid K2.lt
      have D2 := Lib.hid (HDW.out.after B2.out)
      have T2 := Lib.hid (HTW.out.after B2.out)
      have S2 : w2.cell? ⟨w1.heap.size, 76, none⟩ = some (.int .i64 (kp.blk : Int)) ∧ w2.cell? ⟨w1.heap.size, 75, none⟩ = some (.int .u64 (kp.num : Int)) ∧ Blk w2 w.heap.size 123 l'.row := ⟨hck.out.1, hck.out.2, L2.out⟩
      clear K1 K2 g2 e2 b1 HB HL c0 k1 hsK HC6 hck
      refine wp_region_held_drew (S := (fun w' => w'.cell? ⟨w1.heap.size, 76, none⟩ = some (.int .i64 (kp.blk : Int)) ∧ w'.cell? ⟨w1.heap.size, 75, none⟩ = some (.int .u64 (kp.num : Int)) ∧ Blk w' w.heap.size 123 l'.row)) (by kernel_rfl) S2 (fun _ => ?_)
      refine wpAnyH_take (i := 0) (v := .pointer (some ⟨t, 0, none⟩)) rfl (by kernel_rfl) (by kernel_rfl) (by kernel_rfl) (fun _ _ _ h => h) (Or.inl ⟨by kernel_rfl, fun w _ => by go_simp⟩) S2 ?_
      refine wpAnyH_take (i := 1) (v := .pointer (some ⟨w1.heap.size, 76, none⟩)) rfl (by kernel_rfl) (by kernel_rfl) (by kernel_rfl) (fun _ _ _ h => h) (Or.inl ⟨by kernel_rfl, fun w _ => by go_simp⟩) S2 ?_
      refine wpAnyH_take (i := 2) (v := .int .i64 (kp.blk : Int)) rfl (by kernel_rfl) (by kernel_rfl) (by kernel_rfl) (fun _ _ _ h => h) (yields_one (ty := 3) (fun w => by kernel_rfl) (.tmp 25) (by kernel_rfl) (by kernel_rfl) (by kernel_rfl) (fun _ h => h.1)) S2 ?_
      refine wpAnyH_take (i := 3) (v := .int .i64 (1 - (kp.blk : Int))) rfl (by kernel_rfl) (by kernel_rfl) (by kernel_rfl) (fun _ _ _ h => h) (Or.inl ⟨by kernel_rfl, fun w _ => by have hb := sub_wrap HB2.out; go_simp⟩) S2 ?_
      refine wpAnyH_take (i := 4) (v := .pointer (some ⟨w1.heap.size, 75, none⟩)) rfl (by kernel_rfl) (by kernel_rfl) (by kernel_rfl) (fun _ _ _ h => h) (Or.inl ⟨by kernel_rfl, fun w _ => by go_simp⟩) S2 ?_
      refine wpAnyH_take (i := 5) (v := .int .u64 (kp.num : Int)) rfl (by kernel_rfl) (by kernel_rfl) (by kernel_rfl) (fun _ _ _ h => h) (yields_one (ty := 31) (fun w => by kernel_rfl) (.tmp 28) (by kernel_rfl) (by kernel_rfl) (by kernel_rfl) (fun _ h => h.2.1)) S2 ?_
      refine wpAnyH_take (i := 6) (v := .int .u64 ((next64 kp.num : Nat) : Int)) rfl (by kernel_rfl) (by kernel_rfl) (by kernel_rfl) (fun _ _ _ h => h) (Or.inl ⟨by kernel_rfl, fun w _ => by have hb := HNW.out; go_simp⟩) S2 ?_
      refine wpAnyH_take (i := 7) (v := .agg l'.row.toArray) rfl (by kernel_rfl) (by kernel_rfl) (by kernel_rfl) (fun _ _ _ h => h) (yields_seg aggLay sizeLay (.tmp 3) (by kernel_rfl) (by kernel_rfl) (by kernel_rfl) (g := w.heap.size) (i := 0) (fun _ h => h.2.2) (by rw [List.drop_zero, List.take_of_length_le (Nat.le_of_eq HLL.out)]) HLL.out) S2 ?_
      refine wpAnyH_ready (rs := [8]) (by kernel_rfl) (by simp) (AllReadyH.cons rfl (fun K hK => ?_) AllReadyH.nil)
      go_simp
      have D2d : Dev w2.drew a S s := D2.out.after (Below.refl _ _).drew
      have B2d : Below w.heap.size w w2.drew := B2.out.drew
      refine (KW.out _ D2d.tab).mono ?_
      rintro e w3 ⟨rfl, b3⟩
      have S3 : w3.cell? ⟨w1.heap.size, 76, none⟩ = some (.int .i64 (kp.blk : Int)) ∧ w3.cell? ⟨w1.heap.size, 75, none⟩ = some (.int .u64 (kp.num : Int)) ∧ Blk w3 w.heap.size 123 l'.row := ⟨(b3.cell hK2l.out).trans S2.1, (b3.cell hK2l.out).trans S2.2.1, (show Blk w2.drew w.heap.size 123 l'.row from S2.2.2).after b3⟩
      have B3 : Hid (Below w.heap.size w w3) := Lib.hid (B2d.trans (b3.mono B2d.size))
      have D3 := Lib.hid (HDW.out.after B3.out)
      have T3 := Lib.hid (HTW.out.after B3.out)
      have hK3l : Hid (w1.heap.size < w3.heap.size) := Lib.hid (Nat.lt_of_lt_of_le hK2l.out b3.size)
      refine hK.out _ _ S3 (fun _ => ?_)
      clear hK K S2 B2 B2d D2 D2d T2 hK2l b3 L2
      refine wpAnyH_ready (rs := [9]) (by kernel_rfl) (by simp) (AllReadyH.cons rfl (fun K hK => ?_) AllReadyH.nil)
      go_simp
      refine (KP.out _ T3.out D3.out).mono ?_
      rintro e w4 ⟨rfl, d4, c4⟩
      have hna : ∀ j, a.own j ∨ j = a.p → j < w.heap.size := fun j hj => HDW.out.lt j hj
      have S4 : w4.cell? ⟨w1.heap.size, 76, none⟩ = some (.int .i64 (kp.blk : Int)) ∧ w4.cell? ⟨w1.heap.size, 75, none⟩ = some (.int .u64 (kp.num : Int)) ∧ Blk w4 w.heap.size 123 l'.row := by
        have q1 : ∀ i, w4.cell? ⟨w1.heap.size, i, none⟩ = w3.cell? ⟨w1.heap.size, i, none⟩ := fun i => World.cell?_of_block (c4.block _ hK3l.out (fun h => by have h' : w1.heap.size < w.heap.size := hna _ h; have := hsz1.out; omega))
        exact ⟨(q1 76).trans S3.1, (q1 75).trans S3.2.1, S3.2.2.chg c4 (fun h => by have h' : w.heap.size < w.heap.size := hna _ h; omega)⟩
      have D4 := Lib.hid d4
      have T4 := Lib.hid (T3.out.act c4)
      have C4 : Hid (Chg w w4 (fun j => a.own j ∨ j = a.p)) := Lib.hid ((Chg.of_below B3.out).trans c4)
      refine hK.out _ _ S4 (fun _ => ?_)
      clear hK K S3 B3 D3 T3 d4 c4 hna hK3l
      refine wpAnyH_take (i := 10) (v := .int .i64 e2) rfl (by kernel_rfl) (by kernel_rfl) (by kernel_rfl) (fun _ _ _ h => h) (Or.inl ⟨by kernel_rfl, fun w _ => by go_simp⟩) S4 ?_
      refine wpAnyH_done (by kernel_rfl) ?_ _
      by_cases h2 : e2 = 0
      · subst h2
        have HK4 := Lib.hid (HK3.out.trans (if_neg (by simp)))
        have c6 := S4.1
        have L4 := Lib.hid S4.2.2
        have k5 := KV.out _ T4.out D4.out
        clear S4 HK3
        by_cases h3 : e3 = 0
        · subst h3
          have HSG := Lib.hid (tb_seg (p := .pointer (some ⟨a.c, 0, none⟩)) HTW.out.len (Lay.row_length HOK.out))
          have HLT := Lib.hid (show 1 + 75 ≤ ((Value.pointer (some ⟨a.c, 0, none⟩)) :: l.row).length from by rw [List.length_cons, HTW.out.len]; exact Nat.le_refl _)
          have hL5 : ∀ X, Chg w4 X (fun j => a.own j ∨ j = a.p) → Blk X w.heap.size 123 l'.row ∧ Blk X t 125 (.pointer (some ⟨a.c, 0, none⟩) :: l.row) := fun X c => ⟨L4.out.chg c (fun h => by have h' : w.heap.size < w.heap.size := HDW.out.lt _ h; omega), (T4.out.act c).blk⟩
          go_wp2_with (first
            | ((with_reducible refine k5.mono ?_); rintro e w5 ⟨rfl, d5, c5⟩; obtain ⟨L5, T5⟩ := hL5 _ c5)
            | (with_reducible refine wpl_seg_load aggLay sizeLay (.tmp 3) rfl rfl L5 0 l'.row (by rw [List.drop_zero, List.take_of_length_le (Nat.le_of_eq HLL.out)]) HLL.out rfl ?_)
            | (with_reducible refine wpl_seg_store sizeLay (.tmp 47) (.tmp 45) rfl rfl T5 1 l'.row HLL.out HLT.out (Lay.one _) rfl rfl _ HSG.out ?_; intro w6 T6 g6 e6))
          go_ret
          have hy : S.lays s l l' = l' := by unfold Ch.lays; rw [HK4.out]; exact if_pos rfl
          have q6 : Chg w5 w6 (fun k => k = t) := Chg.of_grown g6 (fun k e => Option.some.inj e)
          rw [HK4.out, hy]
          exact ⟨rfl, d5.chg q6 (fun k hk e => by
            subst e
            exact hk.elim T4.out.na hnt.out), ⟨T6, Lay.row_length HOK.out, T4.out.na⟩, ((C4.out.trans c5).more (fun k _ h => .inl h)).trans (q6.more (fun k _ h => .inr h))⟩
        · have d1 : (e3 != 0) = true := by simpa using h3
          have H3 := Lib.hid h3
          clear h3
          go_wp2_with ((with_reducible refine k5.mono ?_); rintro e w5 ⟨rfl, d5, c5⟩)
          go_ret
          have hy : S.lays s l l' = l := by unfold Ch.lays; rw [HK4.out]; exact if_neg H3.out
          rw [HK4.out, hy]
          exact ⟨rfl, d5, T4.out.act c5, (C4.out.trans c5).more (fun k _ h => .inl h)⟩
      · have d1 : (e2 != 0) = true := by simpa using h2
        have HK4 := Lib.hid (HK3.out.trans (if_pos h2))
        have H2 := Lib.hid h2
        clear h2 S4 HK3
        go_wp2_with fail
        go_ret
        have hy : S.lays s l l' = l := by unfold Ch.lays; rw [HK4.out]; exact if_neg H2.out
        rw [HK4.out, hy]
        exact ⟨rfl, D4.out, T4.out, C4.out.more (fun k _ h => .inl h)⟩
    · go_enter Tryz.func67, Tryz.ntmps67
      go_wp2_with (first
        | ((with_reducible refine k1.mono ?_); rintro e w1 ⟨rfl, b1⟩; have K1 := Blk.new w1 159 Kp.zero.row)
        | (with_reducible refine wpl_seg_store sizeKept (.tmp 5) (.tmp 15) rfl rfl K1 0 kp.row HKL.out (by rw [HZ.out]; exact Nat.le_refl _) (Kp.one _) rfl rfl _ hsK ?_; intro w2 K2 g2 e2))
      have hsz1 : Hid (w.heap.size < w1.heap.size) := Lib.hid (Nat.lt_of_lt_of_le (HL.out.lt) b1.size)
      have B2 : Hid (Below w.heap.size w w2) := Lib.hid (((HB.out.trans (b1.mono HB.out.size)).alloc (Nat.le_trans HB.out.size b1.size) _).grown g2 (by simp; have := hsz1.out; omega) (fun k e => by have := Option.some.inj e; have := hsz1.out; omega))
      have L2 : Hid (Blk w2 w.heap.size 123 l'.row) := Lib.hid (((HL.out.after b1).alloc _).grown g2 (by have := hsz1.out; simp; omega))
      have hck := Lib.hid (HC6.out _ _ K2)
      have hK2l : Hid (w1.heap.size < w2.heap.size) := Lib.hid K2.lt
      have D2 := Lib.hid (HDW.out.after B2.out)
      have T2 := Lib.hid (HTW.out.after B2.out)
      have S2 : w2.cell? ⟨w1.heap.size, 76, none⟩ = some (.int .i64 (kp.blk : Int)) ∧ w2.cell? ⟨w1.heap.size, 75, none⟩ = some (.int .u64 (kp.num : Int)) ∧ Blk w2 w.heap.size 123 l'.row := ⟨hck.out.1, hck.out.2, L2.out⟩
      clear K1 K2 g2 e2 b1 HB HL c0 k1 hsK HC6 hck
      refine wp_region_held_drew (S := (fun w' => w'.cell? ⟨w1.heap.size, 76, none⟩ = some (.int .i64 (kp.blk : Int)) ∧ w'.cell? ⟨w1.heap.size, 75, none⟩ = some (.int .u64 (kp.num : Int)) ∧ Blk w' w.heap.size 123 l'.row)) (by kernel_rfl) S2 (fun _ => ?_)
      refine wpAnyH_take (i := 0) (v := .pointer (some ⟨t, 0, none⟩)) rfl (by kernel_rfl) (by kernel_rfl) (by kernel_rfl) (fun _ _ _ h => h) (Or.inl ⟨by kernel_rfl, fun w _ => by go_simp⟩) S2 ?_
      refine wpAnyH_take (i := 1) (v := .pointer (some ⟨w1.heap.size, 76, none⟩)) rfl (by kernel_rfl) (by kernel_rfl) (by kernel_rfl) (fun _ _ _ h => h) (Or.inl ⟨by kernel_rfl, fun w _ => by go_simp⟩) S2 ?_
      refine wpAnyH_take (i := 2) (v := .int .i64 (kp.blk : Int)) rfl (by kernel_rfl) (by kernel_rfl) (by kernel_rfl) (fun _ _ _ h => h) (yields_one (ty := 3) (fun w => by kernel_rfl) (.tmp 25) (by kernel_rfl) (by kernel_rfl) (by kernel_rfl) (fun _ h => h.1)) S2 ?_
      refine wpAnyH_take (i := 3) (v := .int .i64 (1 - (kp.blk : Int))) rfl (by kernel_rfl) (by kernel_rfl) (by kernel_rfl) (fun _ _ _ h => h) (Or.inl ⟨by kernel_rfl, fun w _ => by have hb := sub_wrap HB2.out; go_simp⟩) S2 ?_
      refine wpAnyH_take (i := 4) (v := .pointer (some ⟨w1.heap.size, 75, none⟩)) rfl (by kernel_rfl) (by kernel_rfl) (by kernel_rfl) (fun _ _ _ h => h) (Or.inl ⟨by kernel_rfl, fun w _ => by go_simp⟩) S2 ?_
      refine wpAnyH_take (i := 5) (v := .int .u64 (kp.num : Int)) rfl (by kernel_rfl) (by kernel_rfl) (by kernel_rfl) (fun _ _ _ h => h) (yields_one (ty := 31) (fun w => by kernel_rfl) (.tmp 28) (by kernel_rfl) (by kernel_rfl) (by kernel_rfl) (fun _ h => h.2.1)) S2 ?_
      refine wpAnyH_take (i := 6) (v := .int .u64 ((next64 kp.num : Nat) : Int)) rfl (by kernel_rfl) (by kernel_rfl) (by kernel_rfl) (fun _ _ _ h => h) (Or.inl ⟨by kernel_rfl, fun w _ => by have hb := HNW.out; go_simp⟩) S2 ?_
      refine wpAnyH_take (i := 7) (v := .agg l'.row.toArray) rfl (by kernel_rfl) (by kernel_rfl) (by kernel_rfl) (fun _ _ _ h => h) (yields_seg aggLay sizeLay (.tmp 3) (by kernel_rfl) (by kernel_rfl) (by kernel_rfl) (g := w.heap.size) (i := 0) (fun _ h => h.2.2) (by rw [List.drop_zero, List.take_of_length_le (Nat.le_of_eq HLL.out)]) HLL.out) S2 ?_
      refine wpAnyH_ready (rs := [8]) (by kernel_rfl) (by simp) (AllReadyH.cons rfl (fun K hK => ?_) AllReadyH.nil)
      go_simp
      have D2d : Dev w2.drew a S s := D2.out.after (Below.refl _ _).drew
      have B2d : Below w.heap.size w w2.drew := B2.out.drew
      refine (KW.out _ D2d.tab).mono ?_
      rintro e w3 ⟨rfl, b3⟩
      have S3 : w3.cell? ⟨w1.heap.size, 76, none⟩ = some (.int .i64 (kp.blk : Int)) ∧ w3.cell? ⟨w1.heap.size, 75, none⟩ = some (.int .u64 (kp.num : Int)) ∧ Blk w3 w.heap.size 123 l'.row := ⟨(b3.cell hK2l.out).trans S2.1, (b3.cell hK2l.out).trans S2.2.1, (show Blk w2.drew w.heap.size 123 l'.row from S2.2.2).after b3⟩
      have B3 : Hid (Below w.heap.size w w3) := Lib.hid (B2d.trans (b3.mono B2d.size))
      have D3 := Lib.hid (HDW.out.after B3.out)
      have T3 := Lib.hid (HTW.out.after B3.out)
      have hK3l : Hid (w1.heap.size < w3.heap.size) := Lib.hid (Nat.lt_of_lt_of_le hK2l.out b3.size)
      refine hK.out _ _ S3 (fun _ => ?_)
      clear hK K S2 B2 B2d D2 D2d T2 hK2l b3 L2
      refine wpAnyH_ready (rs := [9]) (by kernel_rfl) (by simp) (AllReadyH.cons rfl (fun K hK => ?_) AllReadyH.nil)
      go_simp
      refine (KP.out _ T3.out D3.out).mono ?_
      rintro e w4 ⟨rfl, d4, c4⟩
      have hna : ∀ j, a.own j ∨ j = a.p → j < w.heap.size := fun j hj => HDW.out.lt j hj
      have S4 : w4.cell? ⟨w1.heap.size, 76, none⟩ = some (.int .i64 (kp.blk : Int)) ∧ w4.cell? ⟨w1.heap.size, 75, none⟩ = some (.int .u64 (kp.num : Int)) ∧ Blk w4 w.heap.size 123 l'.row := by
        have q1 : ∀ i, w4.cell? ⟨w1.heap.size, i, none⟩ = w3.cell? ⟨w1.heap.size, i, none⟩ := fun i => World.cell?_of_block (c4.block _ hK3l.out (fun h => by have h' : w1.heap.size < w.heap.size := hna _ h; have := hsz1.out; omega))
        exact ⟨(q1 76).trans S3.1, (q1 75).trans S3.2.1, S3.2.2.chg c4 (fun h => by have h' : w.heap.size < w.heap.size := hna _ h; omega)⟩
      have D4 := Lib.hid d4
      have T4 := Lib.hid (T3.out.act c4)
      have C4 : Hid (Chg w w4 (fun j => a.own j ∨ j = a.p)) := Lib.hid ((Chg.of_below B3.out).trans c4)
      refine hK.out _ _ S4 (fun _ => ?_)
      clear hK K S3 B3 D3 T3 d4 c4 hna hK3l
      refine wpAnyH_take (i := 10) (v := .int .i64 e2) rfl (by kernel_rfl) (by kernel_rfl) (by kernel_rfl) (fun _ _ _ h => h) (Or.inl ⟨by kernel_rfl, fun w _ => by go_simp⟩) S4 ?_
      refine wpAnyH_done (by kernel_rfl) ?_ _
      by_cases h2 : e2 = 0
      · subst h2
        have HK4 := Lib.hid (HK3.out.trans (if_neg (by simp)))
        have c6 := S4.1
        have L4 := Lib.hid S4.2.2
        have k5 := KV.out _ T4.out D4.out
        clear S4 HK3
        by_cases h3 : e3 = 0
        · subst h3
          have HSG := Lib.hid (tb_seg (p := .pointer (some ⟨a.c, 0, none⟩)) HTW.out.len (Lay.row_length HOK.out))
          have HLT := Lib.hid (show 1 + 75 ≤ ((Value.pointer (some ⟨a.c, 0, none⟩)) :: l.row).length from by rw [List.length_cons, HTW.out.len]; exact Nat.le_refl _)
          have hL5 : ∀ X, Chg w4 X (fun j => a.own j ∨ j = a.p) → Blk X w.heap.size 123 l'.row ∧ Blk X t 125 (.pointer (some ⟨a.c, 0, none⟩) :: l.row) := fun X c => ⟨L4.out.chg c (fun h => by have h' : w.heap.size < w.heap.size := HDW.out.lt _ h; omega), (T4.out.act c).blk⟩
          go_wp2_with (first
            | ((with_reducible refine k5.mono ?_); rintro e w5 ⟨rfl, d5, c5⟩; obtain ⟨L5, T5⟩ := hL5 _ c5)
            | (with_reducible refine wpl_seg_load aggLay sizeLay (.tmp 3) rfl rfl L5 0 l'.row (by rw [List.drop_zero, List.take_of_length_le (Nat.le_of_eq HLL.out)]) HLL.out rfl ?_)
            | (with_reducible refine wpl_seg_store sizeLay (.tmp 47) (.tmp 45) rfl rfl T5 1 l'.row HLL.out HLT.out (Lay.one _) rfl rfl _ HSG.out ?_; intro w6 T6 g6 e6))
          go_ret
          have hy : S.lays s l l' = l' := by unfold Ch.lays; rw [HK4.out]; exact if_pos rfl
          have q6 : Chg w5 w6 (fun k => k = t) := Chg.of_grown g6 (fun k e => Option.some.inj e)
          rw [HK4.out, hy]
          exact ⟨rfl, d5.chg q6 (fun k hk e => by
            subst e
            exact hk.elim T4.out.na hnt.out), ⟨T6, Lay.row_length HOK.out, T4.out.na⟩, ((C4.out.trans c5).more (fun k _ h => .inl h)).trans (q6.more (fun k _ h => .inr h))⟩
        · have d1 : (e3 != 0) = true := by simpa using h3
          have H3 := Lib.hid h3
          clear h3
          go_wp2_with ((with_reducible refine k5.mono ?_); rintro e w5 ⟨rfl, d5, c5⟩)
          go_ret
          have hy : S.lays s l l' = l := by unfold Ch.lays; rw [HK4.out]; exact if_neg H3.out
          rw [HK4.out, hy]
          exact ⟨rfl, d5, T4.out.act c5, (C4.out.trans c5).more (fun k _ h => .inl h)⟩
      · have d1 : (e2 != 0) = true := by simpa using h2
        have HK4 := Lib.hid (HK3.out.trans (if_pos h2))
        have H2 := Lib.hid h2
        clear h2 S4 HK3
        go_wp2_with fail
        go_ret
        have hy : S.lays s l l' = l := by unfold Ch.lays; rw [HK4.out]; exact if_neg H2.out
        rw [HK4.out, hy]
        exact ⟨rfl, D4.out, T4.out, C4.out.more (fun k _ h => .inl h)⟩
end Go.Proofs.YtdiocjneakfdgaaGreatDoor

/- What keep does on a chip of which nothing fails while the power lasts: the plain facts. -/
namespace Go.Proofs.YtdiocjneakfdgaaGreatDoor
open Go.RowKit
theorem wr_all {d : List UInt8} (hd : d.length = 258) : NM.wr 258 NM.ff d = d := by
  apply List.ext_getElem?
  intro i
  rw [NM.wr_get]
  by_cases h : i < 258
  · rw [show NM.ff[i]? = some 255 by unfold NM.ff; rw [List.getElem?_replicate, if_pos h], List.getElem?_eq_getElem (by omega), Option.map_some, if_pos h, List.getD_eq_getElem?_getD, List.getElem?_eq_getElem (by omega), Option.getD_some]
    congr 1
    apply UInt8.toNat_inj.1
    rw [UInt8.toNat_and]
    show 255 &&& _ = _
    rw [Nat.and_comm]
    have := Nat.and_two_pow_sub_one_eq_mod (d[i].toNat) 8
    rw [show 2 ^ 8 - 1 = 255 from rfl] at this
    rw [this, Nat.mod_eq_of_lt (d[i].toNat_lt)]
  · rw [List.getElem?_eq_none (by rw [NM.ff_length]; omega), List.getElem?_eq_none (by omega)]
    rfl
theorem may_here {off live : Bool} {M : Nat} (ho : off = false) (hl : live = true) {b k : Nat} (hb : b < M) (hk : k < 8) : NM.may off live (M : Int) (b : Int) (k : Int) = 0 := by
  unfold NM.may
  rw [if_neg (by simp [ho]), if_pos hl, if_neg (by omega)]
/-- nothing fails, the chip answers, the power lasts -/
structure Calm (S : Ch) (s : NM.Pwr) : Prop where
  fp : ∀ i, S.fp i = false
  fe : ∀ i, S.fe i = false
  live : S.live = true
  off : s.off = false
  after : s.after < 0
  len : 16 ≤ S.bs.length
  good : ∀ b, b < 2 → (S.bs.getD b ⟨[], 0, false⟩).bad = false
  oks : ∀ b, b < 2 → (S.bs.getD b ⟨[], 0, false⟩).pg.length = 8
theorem getD_set2 {Bs : List Bk} {b j : Nat} (hb : b < Bs.length) (x d : Bk) : (Bs.set b x).getD j d = if j = b then x else Bs.getD j d := by
  rw [List.getD_eq_getElem?_getD, List.getElem?_set, List.getD_eq_getElem?_getD]
  by_cases e : b = j
  · subst e; simp [hb]
  · rw [if_neg e, if_neg (fun h => e h.symm)]
theorem act_lasts {s : NM.Pwr} (h : s.after < 0) : s.act = (s, false) := by
  unfold NM.Pwr.act
  rw [if_pos h]
section
variable {S : Ch} {s : NM.Pwr}
theorem Calm.to (h : Calm S s) {S' : Ch} {b : Nat} {X : Bk} (hb : b < 2) (e : S'.bs = S.bs.set b X) (h1 : S'.fp = S.fp) (h2 : S'.fe = S.fe) (h3 : S'.live = S.live) (hx : X.bad = false) (hp : X.pg.length = 8) : Calm S' s := by
  have hl := h.len
  refine ⟨by rw [h1]; exact h.fp, by rw [h2]; exact h.fe, by rw [h3]; exact h.live, h.off, h.after, by rw [e, List.length_set]; exact hl, fun c hc => ?_, fun c hc => ?_⟩
  · rw [e, getD_set2 (by omega)]
    split
    · exact hx
    · exact h.good c hc
  · rw [e, getD_set2 (by omega)]
    split
    · exact hp
    · exact h.oks c hc
theorem Calm.erase (h : Calm S s) {b : Nat} (hb : b < 2) : ∃ S', S.erase (b : Int) s = (S', s, 0) ∧ Calm S' s ∧ S'.bs = S.bs.set b Bk.blank := by
  have hl := h.len
  have hm : NM.may s.off S.live (S.bs.length : Int) (b : Int) 0 = 0 := may_here (k := 0) h.off h.live (by omega) (by omega)
  have hx := h.good b hb
  have hp := h.oks b hb
  obtain ⟨X, hX⟩ : ∃ X, X = S.bs.getD b ⟨[], 0, false⟩ := ⟨_, rfl⟩
  have hxb : X.bad = false := by rw [hX]; exact hx
  have e1 : (S.setNext b 8).bs = S.bs.set b (X.setNext 8) := by rw [hX]; rfl
  have e2 : (S.setNext b 8).bs.getD b ⟨[], 0, false⟩ = X.setNext 8 := by rw [e1, getD_set2 (by omega), if_pos rfl]
  have ha : (S.setNext b 8).actE b s = ({ S with cnt := S.cnt + 1, de := S.de + 1, bs := S.bs.set b ⟨List.replicate 8 NM.ff, 8, false⟩ }, 0) := by
    unfold Ch.actE
    rw [act_lasts h.after, e2]
    show (({ (S.setNext b 8) with cnt := S.cnt + 1, de := S.de + 1, bs := wipeB (S.setNext b 8).bs b (actN false (S.fe S.de) X.bad s.keep 8 0).1 } : Ch), (actN false (S.fe S.de) X.bad s.keep 8 0).2) = _
    rw [h.fe, hxb]
    show (({ (S.setNext b 8) with cnt := S.cnt + 1, de := S.de + 1, bs := wipeB (S.setNext b 8).bs b 8 } : Ch), (0 : Int)) = _
    unfold wipeB
    rw [e2, e1, List.set_set]
    have : (wipP 8 (X.setNext 8).pg) = List.replicate 8 NM.ff := by
      show List.replicate (min 8 X.pg.length) NM.ff ++ X.pg.drop 8 = _
      rw [← hX] at hp
      rw [hp, List.drop_eq_nil_of_le (Nat.le_of_eq hp), List.append_nil]
      rfl
    rw [this]
    have hbad : (X.setNext 8).bad = false := by rw [hX]; exact hx
    show (({ S with cnt := S.cnt + 1, de := S.de + 1, bs := S.bs.set b ⟨List.replicate 8 NM.ff, 8, (X.setNext 8).bad⟩ } : Ch), (0 : Int)) = _
    rw [hbad]
  have he : S.erase (b : Int) s = ((({ S with cnt := S.cnt + 1, de := S.de + 1, bs := S.bs.set b ⟨List.replicate 8 NM.ff, 8, false⟩ } : Ch)).setNext b 0, s, 0) := by
    unfold Ch.erase
    rw [if_neg (by rw [hm]; simp), Int.toNat_natCast, ha, if_pos rfl, act_lasts h.after]
  have hbs : ((({ S with cnt := S.cnt + 1, de := S.de + 1, bs := S.bs.set b ⟨List.replicate 8 NM.ff, 8, false⟩ } : Ch)).setNext b 0).bs = S.bs.set b Bk.blank := by
    show (S.bs.set b ⟨List.replicate 8 NM.ff, 8, false⟩).set b (((S.bs.set b ⟨List.replicate 8 NM.ff, 8, false⟩).getD b ⟨[], 0, false⟩).setNext 0) = _
    rw [getD_set2 (by omega), if_pos rfl, List.set_set]
    rfl
  exact ⟨_, he, h.to hb hbs rfl rfl rfl rfl (by decide), hbs⟩
theorem Calm.program (h : Calm S s) {b : Nat} (hb : b < 2) (hB : S.bs.getD b ⟨[], 0, false⟩ = Bk.blank) {d : List UInt8} (hd : d.length = 258) : ∃ S', S.program (b : Int) 0 d s = (S', s, 0) ∧ Calm S' s ∧ S'.bs = S.bs.set b ⟨d :: List.replicate 7 NM.ff, 1, false⟩ := by
  have hl := h.len
  have hm : NM.may s.off S.live (S.bs.length : Int) (b : Int) 0 = 0 := may_here (k := 0) h.off h.live (by omega) (by omega)
  have hn : S.nextOf b = 0 := by unfold Ch.nextOf; rw [hB]; rfl
  have e1 : (S.setNext b 1).bs = S.bs.set b (Bk.blank.setNext 1) := by unfold Ch.setNext; rw [hB]
  have e2 : (S.setNext b 1).bs.getD b ⟨[], 0, false⟩ = Bk.blank.setNext 1 := by rw [e1, getD_set2 (by omega), if_pos rfl]
  have e3 : pageOf (S.setNext b 1).bs b 0 = NM.ff := by unfold pageOf; rw [e2]; rfl
  have hbad : (Bk.blank.setNext 1).bad = false := rfl
  have ha : (S.setNext b 1).actP b 0 d s = ({ S with cnt := S.cnt + 1, dp := S.dp + 1, bs := S.bs.set b ⟨d :: List.replicate 7 NM.ff, 1, false⟩ }, 0) := by
    unfold Ch.actP
    rw [act_lasts h.after, e2, e3, hbad]
    show (({ (S.setNext b 1) with cnt := S.cnt + 1, dp := S.dp + 1, bs := putPage (S.setNext b 1).bs b 0 (NM.wr (actN false (S.fp S.dp) false s.keep 258 129).1 NM.ff d) } : Ch), (actN false (S.fp S.dp) false s.keep 258 129).2) = _
    rw [h.fp]
    show (({ (S.setNext b 1) with cnt := S.cnt + 1, dp := S.dp + 1, bs := putPage (S.setNext b 1).bs b 0 (NM.wr 258 NM.ff d) } : Ch), (0 : Int)) = _
    rw [wr_all hd]
    unfold putPage
    rw [e2, e1, List.set_set]
    rfl
  have he : S.program (b : Int) 0 d s = (({ S with cnt := S.cnt + 1, dp := S.dp + 1, bs := S.bs.set b ⟨d :: List.replicate 7 NM.ff, 1, false⟩ } : Ch), s, 0) := by
    unfold Ch.program
    rw [if_neg (by rw [hm]; simp), Int.toNat_natCast, hn, if_neg (by simp)]
    show (((S.setNext b 1).actP b 0 d s).1, s.act.1, ((S.setNext b 1).actP b 0 d s).2) = _
    rw [ha, act_lasts h.after]
  exact ⟨_, he, h.to hb rfl rfl rfl rfl rfl (by simp), rfl⟩
theorem Calm.wipes (h : Calm S s) {b : Nat} (hb : b < 2) : ∃ S', Ch.wipes 8 S s (b : Int) = (S', s, 0) ∧ Calm S' s ∧ S'.bs = S.bs.set b Bk.blank := by
  obtain ⟨S', e, hc, hbs⟩ := h.erase hb
  refine ⟨S', ?_, hc, hbs⟩
  unfold Ch.wipes
  rw [e, if_neg (by simp)]
theorem Calm.place (h : Calm S s) {b : Nat} (hb : b < 2) {d : List UInt8} (hd : d.length = 258) : ∃ S', S.place s (b : Int) d = (S', s, 0) ∧ Calm S' s ∧ S'.bs = S.bs.set b ⟨d :: List.replicate 7 NM.ff, 1, false⟩ := by
  have hl := h.len
  obtain ⟨S1, e1, c1, b1⟩ := h.wipes hb
  obtain ⟨S2, e2, c2, b2⟩ := c1.program hb (by rw [b1, getD_set2 (by omega), if_pos rfl]) hd
  refine ⟨S2, ?_, c2, by rw [b2, b1, List.set_set]⟩
  unfold Ch.place
  rw [e1, if_pos rfl]
  unfold Ch.puts
  show (if (S1.program (b : Int) 0 d s).2.2 = 33 then _ else S1.program (b : Int) 0 d s) = _
  rw [e2, if_neg (by simp)]
theorem Calm.may (h : Calm S s) : S.mayE s = 0 := may_here (b := 0) (k := 0) h.off h.live (by have := h.len; omega) (by omega)
theorem Calm.keep (h : Calm S s) (l : Lay) (hl : l.ok) (o : Nat) (k : Nat) (ho : o < 2) (h1 : (keptOf (lookTo S.bs 16)).blk = o) (h2 : (keptOf (lookTo S.bs 16)).num = k) :
    ∃ S', S.keep s l = (S', s, 0) ∧ Calm S' s ∧ S'.bs = (S.bs.set (1 - o) ⟨tpage (next64 k) l :: List.replicate 7 NM.ff, 1, false⟩).set o Bk.blank := by
  obtain ⟨S1, e1, c1, b1⟩ := h.place (b := 1 - o) (by omega) (tpage_length (n := next64 k) hl)
  obtain ⟨S2, e2, c2, b2⟩ := c1.wipes ho
  refine ⟨S2, ?_, c2, by rw [b2, b1]⟩
  have hK : S.lookK s = lookTo S.bs 16 := by unfold Ch.lookK; rw [if_pos h.may]
  have hE : S.lookE s = noneE (lookTo S.bs 16) := by unfold Ch.lookE; rw [if_pos h.may]
  unfold Ch.keep
  rw [hK, hE, h1, h2, show (1 - (o : Int)) = ((1 - o : Nat) : Int) by omega, e1, if_neg (by unfold noneE; split <;> simp), if_neg (by simp)]
  exact e2
end
theorem lookTo_only {bs : List Bk} {i0 : Nat} (k : Nat) (l : Lay) (h0 : tableOf bs.length (pageOf bs (i0 / 8) (i0 % 8)) = some (k, l)) (hi : ∀ i, i < 16 → i ≠ i0 → tableOf bs.length (pageOf bs (i / 8) (i % 8)) = none) :
    ∀ m, m ≤ 16 → lookTo bs m = if i0 < m then some ⟨k, l, i0 / 8, pageOf bs (i0 / 8) (i0 % 8)⟩ else none
  | 0, _ => by rw [if_neg (by omega)]; rfl
  | m + 1, hm => by
    have ih := lookTo_only k l h0 hi m (by omega)
    show lookAt bs.length bs (lookTo bs m) (m / 8) (m % 8) = _
    unfold lookAt
    by_cases e : m = i0
    · subst e
      rw [ih, if_neg (by omega), h0, if_pos (by omega)]
      rfl
    · rw [hi m (by omega) e, ih]
      by_cases c : i0 < m
      · rw [if_pos c, if_pos (by omega)]; rfl
      · rw [if_neg c, if_neg (by omega)]; rfl
theorem lookTo_none {bs : List Bk} (hi : ∀ i, i < 16 → tableOf bs.length (pageOf bs (i / 8) (i % 8)) = none) : ∀ m, m ≤ 16 → lookTo bs m = none
  | 0, _ => rfl
  | m + 1, hm => by
    show lookAt bs.length bs (lookTo bs m) (m / 8) (m % 8) = _
    unfold lookAt
    rw [hi m (by omega), lookTo_none hi m (by omega)]
    rfl
/-- the chip keeps the table l, with the number k, in its block o -/
structure Keeps (S : Ch) (o k : Nat) (l : Lay) : Prop where
  lt : o < 2
  here : S.bs.getD o ⟨[], 0, false⟩ = ⟨tpage k l :: List.replicate 7 NM.ff, 1, false⟩
  there : S.bs.getD (1 - o) ⟨[], 0, false⟩ = Bk.blank
theorem ff_pages {j : Nat} (h : j < 8) : (Bk.blank.pg.getD j []) = NM.ff := by
  show (List.replicate 8 NM.ff).getD j [] = _
  rw [List.getD_eq_getElem?_getD, List.getElem?_replicate, if_pos h]
  rfl
theorem page_first {P : List UInt8} {j : Nat} (h : j < 8) : ((P :: List.replicate 7 NM.ff).getD j []) = if j = 0 then P else NM.ff := by
  cases j with
  | zero => rfl
  | succ j =>
    rw [if_neg (by omega), List.getD_eq_getElem?_getD, List.getElem?_cons_succ, List.getElem?_replicate, if_pos (by omega)]
    rfl
section
variable {S : Ch} {s : NM.Pwr} {o k : Nat} {l : Lay}
theorem Calm.first (hc : Calm S s) (h0 : S.bs.getD 0 ⟨[], 0, false⟩ = Bk.blank) (h1 : S.bs.getD 1 ⟨[], 0, false⟩ = Bk.blank) (hl : l.ok) : ∃ S', S.keep s l = (S', s, 0) ∧ Calm S' s ∧ Keeps S' 1 1 l ∧ S'.bs.length = S.bs.length ∧ ∀ b, 2 ≤ b → S'.bs.getD b ⟨[], 0, false⟩ = S.bs.getD b ⟨[], 0, false⟩ := by
  have hlen := hc.len
  have hk1 := lookTo_none (bs := S.bs) (fun i hi => by
    have : pageOf S.bs (i / 8) (i % 8) = NM.ff := by
      unfold pageOf
      rcases (show i / 8 = 0 ∨ i / 8 = 1 by omega) with e | e
      · rw [e, h0, ff_pages (by omega)]
      · rw [e, h1, ff_pages (by omega)]
    rw [this]
    exact tableOf_ff) 16 (Nat.le_refl _)
  obtain ⟨S', e, c, hb⟩ := hc.keep l hl 0 0 (by omega) (by rw [hk1]; rfl) (by rw [hk1]; rfl)
  refine ⟨S', e, c, ⟨by omega, ?_, ?_⟩, by rw [hb, List.length_set, List.length_set], fun b h2 => ?_⟩
  · rw [hb, getD_set2 (by rw [List.length_set]; omega), if_neg (by omega), getD_set2 (by omega), if_pos rfl]
    rfl
  · rw [hb, getD_set2 (by rw [List.length_set]; omega), if_pos (by omega)]
  · rw [hb, getD_set2 (by rw [List.length_set]; omega), if_neg (by omega), getD_set2 (by omega), if_neg (by omega)]
end
end Go.Proofs.YtdiocjneakfdgaaGreatDoor

