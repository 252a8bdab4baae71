/- Several texts of the proof, joined: what each has is said at its head. -/
import Derived.Test.YtdiocjneakfdgaaGreatDoorQBbtWrite
import Derived.Test.YtdiocjneakfdgaaGreatDoorQNandFew
import Derived.Test.YtdiocjneakfdgaaGreatDoorQCore
/- A chip with its power, and a table over it; the contracts of wipe and place. Condition: the chip is there; few acts so far. -/
namespace Go.Proofs.YtdiocjneakfdgaaGreatDoor
open Go.RowKit
/-- a chip, its power, and the table of the check sum -/
structure Dev (w : World) (a : At) (S : Ch) (s : NM.Pwr) : Prop where
  pc : PChip w a S
  pw : PPow w a.p s
  tab : Tab w
  far : ∀ k, a.own k ∨ k = a.p → k ≠ 0
  fits : s.fits
def At.all (a : At) (k : Nat) : Prop := a.own k ∨ k = a.p
section
variable {w w' : World} {a : At} {S S' : Ch} {s s' : NM.Pwr}
theorem Dev.after (h : Dev w a S s) (hb : Below w.heap.size w w') : Dev w' a S s := ⟨h.pc.after hb, h.pw.after hb, h.tab.below hb h.tab.lt, h.far, h.fits⟩
theorem Tab.chg {T : Nat → Prop} (h : Tab w) (hc : Chg w w' T) (hT : ¬ T 0) : Tab w' := fun r hr => by
  have hl := h.lt
  have hb := hc.block _ hl hT
  have := h r hr
  unfold World.cell? at this ⊢
  simp only at this ⊢
  rw [hb]
  exact this
theorem Dev.chg {T : Nat → Prop} (h : Dev w a S s) (hc : Chg w w' T) (hT : ∀ k, a.all k ∨ k = 0 → ¬ T k) : Dev w' a S s :=
  ⟨h.pc.chg hc (fun k hk => hT k (.inl (.inl hk))), h.pw.chg hc (hT _ (.inl (.inr rfl))), h.tab.chg hc (hT _ (.inr rfl)), h.far, h.fits⟩
theorem Dev.act (h : Dev w a S s) (hc : Chg w w' (fun j => a.own j ∨ j = a.p)) (h1 : PChip w' a S') (h2 : PPow w' a.p s') (hf : s'.fits) : Dev w' a S' s' :=
  ⟨h1, h2, h.tab.chg hc (fun e => h.far _ e rfl), h.far, hf⟩
theorem Dev.lt (h : Dev w a S s) : ∀ k, a.all k → k < w.heap.size := fun k hk => by
  rcases hk with hk | rfl
  · exact h.pc.own_lt k hk
  · exact h.pw.lt
end
/-- in block t lies a table over the chip -/
structure Tb (w : World) (t : Nat) (a : At) (l : Lay) : Prop where
  blk : Blk w t 125 (.pointer (some ⟨a.c, 0, none⟩) :: l.row)
  len : l.row.length = 75
  na : ¬ a.all t
section
variable {w w' : World} {a : At} {S S' : Ch} {s s' : NM.Pwr} {t : Nat} {l : Lay}
theorem Tb.after (h : Tb w t a l) (hb : Below w.heap.size w w') : Tb w' t a l := ⟨h.blk.after hb, h.len, h.na⟩
theorem Tb.chg {T : Nat → Prop} (h : Tb w t a l) (hc : Chg w w' T) (hT : ¬ T t) : Tb w' t a l := ⟨h.blk.chg hc hT, h.len, h.na⟩
theorem Tb.act (h : Tb w t a l) (hc : Chg w w' (fun j => a.own j ∨ j = a.p)) : Tb w' t a l := h.chg hc h.na
theorem Tb.lay (h : Tb w t a l) (ok : l.ok) : LayAt w t 1 l := h.blk.lay ok (by rw [List.drop_succ_cons, List.drop_zero, List.take_of_length_le (by rw [h.len]; exact Nat.le_refl _)])
theorem Tb.chip (h : Tb w t a l) : w.cell? ⟨t, 0, none⟩ = some (.pointer (some ⟨a.c, 0, none⟩)) := h.blk.cell 0
end
/-- so many tries of an Erase -/
def Ch.wipes : Nat → Ch → NM.Pwr → Int → Ch × NM.Pwr × Int
  | 0, S, s, _ => (S, s, 34)
  | k + 1, S, s, b => if (S.erase b s).2.2 = 33 then Ch.wipes k (S.erase b s).1 (S.erase b s).2.1 b else S.erase b s
theorem few_wipes : ∀ (k : Nat) (S : Ch) (s : NM.Pwr) (b : Int) (n : Nat), S.few n → (Ch.wipes k S s b).1.few (n + k)
  | 0, _, _, _, _, h => h
  | k + 1, S, s, b, n, h => by
    unfold Ch.wipes
    split
    · have := few_wipes k _ (S.erase b s).2.1 b (n + 1) (few_erase b s n h)
      rw [show n + (k + 1) = n + 1 + k by omega]
      exact this
    · exact few_le (by omega) (few_erase b s n h)
set_option maxRecDepth 100000 in
set_option maxHeartbeats 8000000 in
theorem wipe_any (t : Nat) (a : At) (l : Lay) (S : Ch) (s : NM.Pwr) (b : Int) (hsm : S.few 999900) (w : World) (hT : Tb w t a l) (hD : Dev w a S s) :
    Calls Tryz.prog 95 #[.pointer (some ⟨t, 0, none⟩), .int .i64 b] w fun e w' => e = .returned (.int .i64 (Ch.wipes 8 S s b).2.2) ∧ Dev w' a (Ch.wipes 8 S s b).1 (Ch.wipes 8 S s b).2.1 ∧ Chg w w' (fun j => a.own j ∨ j = a.p) := by
  have HT := Lib.hid hT
  have HD := Lib.hid hD
  have HF := Lib.hid hsm
  clear hT hD hsm
  go_enter Tryz.func95, Tryz.ntmps95
  go_wp2_with fail
  go_loopw [6] (fun i wr => ∃ j : Nat, j ≤ 8 ∧ i = .int .i64 j ∧ ∃ (S' : Ch) (s' : NM.Pwr), S'.few (999900 + j) ∧ Dev wr a S' s' ∧ Chg w wr (fun j => a.own j ∨ j = a.p) ∧ Ch.wipes 8 S s b = Ch.wipes (8 - j) S' s' b) (fun i _ => 8 - (intOf i).toNat)
  case atStart => exact ⟨0, by omega, rfl, S, s, HF.out, HD.out, Chg.refl w _, rfl⟩
  case round =>
    rename_i wr
    obtain ⟨j, hj, rfl, S', s', hf, hd, hc, he⟩ := hrel
    clear HD
    by_cases hlt : j < 8
    · have k1 := erase_any a S' s' b hd.fits (few_le (by omega) hf) wr hd.pc hd.pw
      have c0 := (HT.out.act hc).chip
      have HFF := Lib.hid hf
      have HDD := Lib.hid hd
      have HC := Lib.hid hc
      have hE : Ch.wipes 8 S s b = if (S'.erase b s').2.2 = 33 then Ch.wipes (8 - (j + 1)) (S'.erase b s').1 (S'.erase b s').2.1 b else S'.erase b s' := by
        rw [he, show 8 - j = (8 - (j + 1)) + 1 by omega, Ch.wipes]
      have HE := Lib.hid hE
      have hdf := Lib.hid (erase_fits (S := S') b hd.fits)
      have hfe := Lib.hid (few_erase b s' _ hf)
      obtain ⟨r, hr⟩ : ∃ r, r = S'.erase b s' := ⟨_, rfl⟩
      rw [← hr] at k1 hE hdf hfe
      have HE := Lib.hid hE
      obtain ⟨Sr, sr, er⟩ := r
      simp only at k1 hE hdf hfe
      clear hf hd hc he hE hr
      by_cases h33 : er = 33
      · subst h33
        go_wp2_with ((with_reducible refine k1.mono ?_); rintro e w2 ⟨rfl, p2, q2, c2⟩; have D2 := Lib.hid (HDD.out.act c2 p2 q2 hdf.out); have C2 := Lib.hid (HC.out.trans c2))
        exact ⟨⟨j + 1, by omega, by go_num, Sr, sr, hfe.out, D2.out, C2.out, by rw [HE.out]; simp⟩, by simp [intOf]; omega⟩
      · have d1 : (er != 33) = true := by simpa using h33
        have HH := Lib.hid h33
        clear h33
        go_wp2_with ((with_reducible refine k1.mono ?_); rintro e w2 ⟨rfl, p2, q2, c2⟩; have D2 := Lib.hid (HDD.out.act c2 p2 q2 hdf.out); have C2 := Lib.hid (HC.out.trans c2))
        go_ret
        rw [HE.out, if_neg HH.out]
        exact ⟨rfl, D2.out, C2.out⟩
    · obtain rfl : j = 8 := by omega
      have HDD := Lib.hid hd
      have HC := Lib.hid hc
      have HE := Lib.hid he
      clear hf hd hc he
      go_wp2_with fail
      go_ret
      rw [HE.out]
      exact ⟨rfl, HDD.out, HC.out⟩
end Go.Proofs.YtdiocjneakfdgaaGreatDoor

/- The contract of place. Condition: the chip is there; few acts so far. -/
namespace Go.Proofs.YtdiocjneakfdgaaGreatDoor
open Go.RowKit
/-- so many tries of a Program, page by page -/
def Ch.puts : Nat → Nat → Ch → NM.Pwr → Int → List UInt8 → Ch × NM.Pwr × Int
  | 0, _, S, s, _, _ => (S, s, 34)
  | k + 1, j, S, s, b, p => if (S.program b (j : Int) p s).2.2 = 33 then Ch.puts k (j + 1) (S.program b (j : Int) p s).1 (S.program b (j : Int) p s).2.1 b p else S.program b (j : Int) p s
/-- what place does, and answers -/
def Ch.place (S : Ch) (s : NM.Pwr) (b : Int) (p : List UInt8) : Ch × NM.Pwr × Int :=
  if (Ch.wipes 8 S s b).2.2 = 0 then Ch.puts 8 0 (Ch.wipes 8 S s b).1 (Ch.wipes 8 S s b).2.1 b p else Ch.wipes 8 S s b
theorem few_puts : ∀ (k j : Nat) (S : Ch) (s : NM.Pwr) (b : Int) (p : List UInt8) (n : Nat), S.few n → (Ch.puts k j S s b p).1.few (n + k)
  | 0, _, _, _, _, _, _, h => h
  | k + 1, j, S, s, b, p, n, h => by
    unfold Ch.puts
    split
    · have := few_puts k (j + 1) _ (S.program b (j : Int) p s).2.1 b p (n + 1) (few_program b j p s n h)
      rw [show n + (k + 1) = n + 1 + k by omega]
      exact this
    · exact few_le (by omega) (few_program b j p s n h)
theorem few_place (S : Ch) (s : NM.Pwr) (b : Int) (p : List UInt8) (n : Nat) (h : S.few n) : (S.place s b p).1.few (n + 16) := by
  unfold Ch.place
  split
  · exact few_puts 8 0 _ _ b p (n + 8) (few_wipes 8 S s b n h)
  · exact few_le (by omega) (few_wipes 8 S s b n h)
set_option maxRecDepth 100000 in
set_option maxHeartbeats 8000000 in
theorem place_any (t : Nat) (a : At) (l : Lay) (S : Ch) (s : NM.Pwr) (b : Int) (p : List UInt8) (hp : p.length = 258) (hsm : S.few 999800) (w : World) (hT : Tb w t a l) (hD : Dev w a S s) :
    Calls Tryz.prog 93 #[.pointer (some ⟨t, 0, none⟩), .int .i64 b, .agg (cl p)] w fun e w' => e = .returned (.int .i64 (S.place s b p).2.2) ∧ Dev w' a (S.place s b p).1 (S.place s b p).2.1 ∧ Chg w w' (fun j => a.own j ∨ j = a.p) := by
  have b0 : Below w.heap.size w (w.alloc (.cells (cl p) 92)) := (Below.refl _ _).alloc (Nat.le_refl _) _
  have P0 := Lib.hid (PArr.new w hp)
  have T0 := Lib.hid (hT.after b0)
  have D0 := Lib.hid (hD.after b0)
  have HB := Lib.hid b0
  have hgp : Hid (¬ a.all w.heap.size) := Lib.hid (fun h => Nat.lt_irrefl _ (hD.lt _ h))
  have k1 := wipe_any t a l S s b (few_le (by omega) hsm) _ (hT.after b0) (hD.after b0)
  have hfw := Lib.hid (few_wipes 8 S s b _ hsm)
  have HP : Hid (S.place s b p = if (Ch.wipes 8 S s b).2.2 = 0 then Ch.puts 8 0 (Ch.wipes 8 S s b).1 (Ch.wipes 8 S s b).2.1 b p else Ch.wipes 8 S s b) := Lib.hid rfl
  obtain ⟨r, hr⟩ : ∃ r, r = Ch.wipes 8 S s b := ⟨_, rfl⟩
  rw [← hr] at k1 hfw HP
  obtain ⟨Sr, sr, er⟩ := r
  simp only at k1 hfw HP
  have HPL := Lib.hid hp
  clear hr b0 hT hD hp hsm
  go_enter Tryz.func93, Tryz.ntmps93
  go_wp2_with fail
  ((with_reducible refine k1.mono ?_); rintro e w1 ⟨rfl, d1, c1⟩)
  have D1 := Lib.hid d1
  have T1 := Lib.hid (T0.out.act c1)
  have P1 : Hid (PArr w1 w.heap.size p) := Lib.hid ⟨(c1.block _ P0.out.lt hgp.out).trans P0.out.1, HPL.out⟩
  have C1 : Hid (Chg w w1 (fun j => a.own j ∨ j = a.p)) := Lib.hid ((Chg.of_below HB.out).trans c1)
  clear d1 c1 k1 P0 T0 D0 HB
  by_cases h0 : er = 0
  · subst h0
    have HP2 := Lib.hid (HP.out.trans (if_pos rfl))
    go_wp2_with fail
    go_loopw [16] (fun i wr => ∃ j : Nat, j ≤ 8 ∧ i = .int .i64 j ∧ ∃ (S' : Ch) (s' : NM.Pwr), S'.few (999808 + j) ∧ Dev wr a S' s' ∧ PArr wr w.heap.size p ∧ Tb wr t a l ∧ Chg w wr (fun j => a.own j ∨ j = a.p) ∧ S.place s b p = Ch.puts (8 - j) j S' s' b p) (fun i _ => 8 - (intOf i).toNat)
    case atStart => exact ⟨0, by omega, rfl, Sr, sr, hfw.out, D1.out, P1.out, T1.out, C1.out, HP2.out⟩
    case round =>
      rename_i wr
      obtain ⟨j, hj, rfl, S', s', hf, hd, hq, ht, hc, he⟩ := hrel
      clear D1 P1 T1 C1 HP2 HP
      by_cases hlt : j < 8
      · have k1 := program_any a S' s' b (j : Int) p HPL.out hd.fits (few_le (by omega) hf) wr.drew (hd.pc.after (Below.refl _ _).drew) (hd.pw.after (Below.refl _ _).drew)
        have c0 := ht.chip
        have HDD := Lib.hid hd
        have HC := Lib.hid hc
        have HT := Lib.hid ht
        have HQ := Lib.hid hq
        have hE : S.place s b p = if (S'.program b (j : Int) p s').2.2 = 33 then Ch.puts (8 - (j + 1)) (j + 1) (S'.program b (j : Int) p s').1 (S'.program b (j : Int) p s').2.1 b p else S'.program b (j : Int) p s' := by
          rw [he, show 8 - j = (8 - (j + 1)) + 1 by omega, Ch.puts]
        have hdf := Lib.hid (program_fits (S := S') b (j : Int) p hd.fits)
        have hfe := Lib.hid (few_program b (j : Int) p s' _ hf)
        obtain ⟨r, hr⟩ : ∃ r, r = S'.program b (j : Int) p s' := ⟨_, rfl⟩
        rw [← hr] at k1 hE hdf hfe
        obtain ⟨S2', s2, e2⟩ := r
        simp only at k1 hE hdf hfe
        have HE := Lib.hid hE
        clear hf hd hc he hE hr ht hq
        go_wp2_with fail
        have S0 : wr.drew.cell? ⟨t, 0, none⟩ = some (.pointer (some ⟨a.c, 0, none⟩)) ∧ PArr wr.drew w.heap.size p := ⟨c0, HQ.out⟩
        refine wp_region_held_drew (S := fun w' => w'.cell? ⟨t, 0, none⟩ = some (.pointer (some ⟨a.c, 0, none⟩)) ∧ PArr w' w.heap.size p) (by kernel_rfl) S0 (fun _ => ?_)
        refine wpAnyH_take (i := 0) (v := .pointer (some ⟨t, 0, none⟩)) rfl (by kernel_rfl) (by kernel_rfl) (by kernel_rfl) (fun _ _ _ h => h) (Or.inl ⟨by kernel_rfl, fun w _ => by go_simp⟩) S0 ?_
        refine wpAnyH_take (i := 1) (v := .pointer (some ⟨t, 0, none⟩)) rfl (by kernel_rfl) (by kernel_rfl) (by kernel_rfl) (fun _ _ _ h => h) (Or.inl ⟨by kernel_rfl, fun w _ => by go_simp⟩) S0 ?_
        refine wpAnyH_take (i := 2) (v := .pointer (some ⟨t, 0, none⟩)) rfl (by kernel_rfl) (by kernel_rfl) (by kernel_rfl) (fun _ _ _ h => h) (Or.inl ⟨by kernel_rfl, fun w _ => by go_simp⟩) S0 ?_
        refine wpAnyH_take (i := 3) (v := .pointer (some ⟨a.c, 0, none⟩)) rfl (by kernel_rfl) (by kernel_rfl) (by kernel_rfl) (fun _ _ _ h => h) (yields_one (ty := 34) (fun w => by kernel_rfl) (.tmp 21) (by kernel_rfl) (by kernel_rfl) (by kernel_rfl) (fun _ h => h.1)) S0 ?_
        refine wpAnyH_take (i := 4) (v := .int .i64 b) rfl (by kernel_rfl) (by kernel_rfl) (by kernel_rfl) (fun _ _ _ h => h) (Or.inl ⟨by kernel_rfl, fun w _ => by go_simp⟩) S0 ?_
        refine wpAnyH_take (i := 5) (v := .int .i64 (j : Int)) rfl (by kernel_rfl) (by kernel_rfl) (by kernel_rfl) (fun _ _ _ h => h) (Or.inl ⟨by kernel_rfl, fun w _ => by go_simp⟩) S0 ?_
        refine wpAnyH_take (i := 6) (v := .agg (cl p)) rfl (by kernel_rfl) (by kernel_rfl) (by kernel_rfl) (fun _ _ _ h => h) (yields_pload (g := w.heap.size) (.tmp 5) (by kernel_rfl) (by kernel_rfl) (by kernel_rfl) (fun _ h => h.2)) S0 ?_
        refine wpAnyH_ready (rs := [7]) (by kernel_rfl) (by simp) (AllReadyH.cons rfl (fun K hK => ?_) AllReadyH.nil)
        go_simp
        ((with_reducible refine k1.mono ?_); rintro e w2 ⟨rfl, p2, q2, c2⟩)
        have dw : Dev wr.drew a S' s' := HDD.out.after (Below.refl _ _).drew
        have tw : Tb wr.drew t a l := HT.out.after (Below.refl _ _).drew
        have D2 := Lib.hid (dw.act c2 p2 q2 hdf.out)
        have T2 := Lib.hid (tw.act c2)
        have Q2 : Hid (PArr w2 w.heap.size p) := Lib.hid ⟨(c2.block _ S0.2.lt hgp.out).trans S0.2.1, HPL.out⟩
        have C2 : Hid (Chg w w2 (fun j => a.own j ∨ j = a.p)) := Lib.hid ((HC.out.trans (Chg.of_below (Below.refl wr.heap.size wr).drew)).trans c2)
        have S2 : w2.cell? ⟨t, 0, none⟩ = some (.pointer (some ⟨a.c, 0, none⟩)) ∧ PArr w2 w.heap.size p := ⟨T2.out.chip, Q2.out⟩
        refine hK.out _ _ S2 (fun _ => ?_)
        clear hK K k1 c2 p2 q2 dw tw
        refine wpAnyH_take (i := 8) (v := .int .i64 e2) rfl (by kernel_rfl) (by kernel_rfl) (by kernel_rfl) (fun _ _ _ h => h) (Or.inl ⟨by kernel_rfl, fun w _ => by go_simp⟩) S2 ?_
        refine wpAnyH_done (by kernel_rfl) ?_ _
        clear S0 S2
        by_cases h33 : e2 = 33
        · subst h33
          go_wp2_with fail
          exact ⟨⟨j + 1, by omega, by go_num, S2', s2, hfe.out, D2.out, Q2.out, T2.out, C2.out, by rw [HE.out]; simp⟩, by simp [intOf]; omega⟩
        · have d1 : (e2 != 33) = true := by simpa using h33
          have HH := Lib.hid h33
          clear h33
          go_wp2_with fail
          go_ret
          rw [HE.out, if_neg HH.out]
          exact ⟨rfl, D2.out, C2.out⟩
      · obtain rfl : j = 8 := by omega
        have HDD := Lib.hid hd
        have HC := Lib.hid hc
        have HE := Lib.hid he
        clear hf hd hc he hq ht
        go_wp2_with fail
        go_ret
        rw [HE.out]
        exact ⟨rfl, HDD.out, HC.out⟩
  · have d1 : (er != 0) = true := by simpa using h0
    have HP2 := Lib.hid (HP.out.trans (if_neg h0))
    clear h0 HP
    go_wp2_with fail
    go_ret
    rw [HP2.out]
    exact ⟨rfl, D1.out, C1.out⟩
end Go.Proofs.YtdiocjneakfdgaaGreatDoor

