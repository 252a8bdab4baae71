/- A chip with its power, and a table over it; the contracts of wipe and place. Condition: the chip is there; few acts so far. -/
import Derived.Test.YtaafelhjcmgkdaaGreatDoorQBbtWrite
import Derived.Test.YtaafelhjcmgkdaaGreatDoorQNandFew
namespace Go.Proofs.YtaafelhjcmgkdaaGreatDoor
open Go.RowKit
/-- a chip, its power, and the table of the check sum -/
structure Dev (w : World) (a : At) (S : Ch) (s : NM.Pwr) : Prop where
  pc : PChip w a S
  pw : PPow w a.p s
  tab : Tab w
  far : ∀ k, a.own k ∨ k = a.p → k ≠ 0
  fits : s.fits
def At.all (a : At) (k : Nat) : Prop := a.own k ∨ k = a.p
section
variable {w w' : World} {a : At} {S S' : Ch} {s s' : NM.Pwr}
theorem Dev.after (h : Dev w a S s) (hb : Below w.heap.size w w') : Dev w' a S s := ⟨h.pc.after hb, h.pw.after hb, h.tab.below hb h.tab.lt, h.far, h.fits⟩
theorem Tab.chg {T : Nat → Prop} (h : Tab w) (hc : Chg w w' T) (hT : ¬ T 0) : Tab w' := fun r hr => by
  have hl := h.lt
  have hb := hc.block _ hl hT
  have := h r hr
  unfold World.cell? at this ⊢
  simp only at this ⊢
  rw [hb]
  exact this
theorem Dev.chg {T : Nat → Prop} (h : Dev w a S s) (hc : Chg w w' T) (hT : ∀ k, a.all k ∨ k = 0 → ¬ T k) : Dev w' a S s :=
  ⟨h.pc.chg hc (fun k hk => hT k (.inl (.inl hk))), h.pw.chg hc (hT _ (.inl (.inr rfl))), h.tab.chg hc (hT _ (.inr rfl)), h.far, h.fits⟩
theorem Dev.act (h : Dev w a S s) (hc : Chg w w' (fun j => a.own j ∨ j = a.p)) (h1 : PChip w' a S') (h2 : PPow w' a.p s') (hf : s'.fits) : Dev w' a S' s' :=
  ⟨h1, h2, h.tab.chg hc (fun e => h.far _ e rfl), h.far, hf⟩
theorem Dev.lt (h : Dev w a S s) : ∀ k, a.all k → k < w.heap.size := fun k hk => by
  rcases hk with hk | rfl
  · exact h.pc.own_lt k hk
  · exact h.pw.lt
end
/-- in block t lies a table over the chip -/
structure Tb (w : World) (t : Nat) (a : At) (l : Lay) : Prop where
  blk : Blk w t 105 (.pointer (some ⟨a.c, 0, none⟩) :: l.row)
  len : l.row.length = 75
  na : ¬ a.all t
section
variable {w w' : World} {a : At} {S S' : Ch} {s s' : NM.Pwr} {t : Nat} {l : Lay}
theorem Tb.after (h : Tb w t a l) (hb : Below w.heap.size w w') : Tb w' t a l := ⟨h.blk.after hb, h.len, h.na⟩
theorem Tb.chg {T : Nat → Prop} (h : Tb w t a l) (hc : Chg w w' T) (hT : ¬ T t) : Tb w' t a l := ⟨h.blk.chg hc hT, h.len, h.na⟩
theorem Tb.act (h : Tb w t a l) (hc : Chg w w' (fun j => a.own j ∨ j = a.p)) : Tb w' t a l := h.chg hc h.na
theorem Tb.lay (h : Tb w t a l) (ok : l.ok) : LayAt w t 1 l := h.blk.lay ok (by rw [List.drop_succ_cons, List.drop_zero, List.take_of_length_le (by rw [h.len]; exact Nat.le_refl _)])
theorem Tb.chip (h : Tb w t a l) : w.cell? ⟨t, 0, none⟩ = some (.pointer (some ⟨a.c, 0, none⟩)) := h.blk.cell 0
end
/-- so many tries of an Erase -/
def Ch.wipes : Nat → Ch → NM.Pwr → Int → Ch × NM.Pwr × Int
  | 0, S, s, _ => (S, s, 34)
  | k + 1, S, s, b => if (S.erase b s).2.2 = 33 then Ch.wipes k (S.erase b s).1 (S.erase b s).2.1 b else S.erase b s
theorem few_wipes : ∀ (k : Nat) (S : Ch) (s : NM.Pwr) (b : Int) (n : Nat), S.few n → (Ch.wipes k S s b).1.few (n + k)
  | 0, _, _, _, _, h => h
  | k + 1, S, s, b, n, h => by
    unfold Ch.wipes
    split
    · have := few_wipes k _ (S.erase b s).2.1 b (n + 1) (few_erase b s n h)
      rw [show n + (k + 1) = n + 1 + k by omega]
      exact this
    · exact few_le (by omega) (few_erase b s n h)
theorem wipes_fits : ∀ (k : Nat) (S : Ch) (s : NM.Pwr) (b : Int), s.fits → (Ch.wipes k S s b).2.1.fits
  | 0, _, _, _, h => h
  | k + 1, S, s, b, h => by
    unfold Ch.wipes
    split
    · exact wipes_fits k _ _ b (erase_fits b h)
    · exact erase_fits b h
set_option maxRecDepth 100000 in
set_option maxHeartbeats 8000000 in
theorem wipe_any (t : Nat) (a : At) (l : Lay) (S : Ch) (s : NM.Pwr) (b : Int) (hsm : S.few 999900) (w : World) (hT : Tb w t a l) (hD : Dev w a S s) :
    Calls Tryz.prog 78 #[.pointer (some ⟨t, 0, none⟩), .int .i64 b] w fun e w' => e = .returned (.int .i64 (Ch.wipes 8 S s b).2.2) ∧ Dev w' a (Ch.wipes 8 S s b).1 (Ch.wipes 8 S s b).2.1 ∧ Chg w w' (fun j => a.own j ∨ j = a.p) := by
  have HT := Lib.hid hT
  have HD := Lib.hid hD
  have HF := Lib.hid hsm
  clear hT hD hsm
  go_enter Tryz.func78, Tryz.ntmps78
  go_wp2_with fail
  go_loopw [6] (fun i wr => ∃ j : Nat, j ≤ 8 ∧ i = .int .i64 j ∧ ∃ (S' : Ch) (s' : NM.Pwr), S'.few (999900 + j) ∧ Dev wr a S' s' ∧ Chg w wr (fun j => a.own j ∨ j = a.p) ∧ Ch.wipes 8 S s b = Ch.wipes (8 - j) S' s' b) (fun i _ => 8 - (intOf i).toNat)
  case atStart => exact ⟨0, by omega, rfl, S, s, HF.out, HD.out, Chg.refl w _, rfl⟩
  case round =>
    rename_i wr
    obtain ⟨j, hj, rfl, S', s', hf, hd, hc, he⟩ := hrel
    clear HD
    by_cases hlt : j < 8
    · have k1 := erase_any a S' s' b hd.fits (few_le (by omega) hf) wr hd.pc hd.pw
      have c0 := (HT.out.act hc).chip
      have HFF := Lib.hid hf
      have HDD := Lib.hid hd
      have HC := Lib.hid hc
      have hE : Ch.wipes 8 S s b = if (S'.erase b s').2.2 = 33 then Ch.wipes (8 - (j + 1)) (S'.erase b s').1 (S'.erase b s').2.1 b else S'.erase b s' := by
        rw [he, show 8 - j = (8 - (j + 1)) + 1 by omega, Ch.wipes]
      have HE := Lib.hid hE
      have hdf := Lib.hid (erase_fits (S := S') b hd.fits)
      have hfe := Lib.hid (few_erase b s' _ hf)
      obtain ⟨r, hr⟩ : ∃ r, r = S'.erase b s' := ⟨_, rfl⟩
      rw [← hr] at k1 hE hdf hfe
      have HE := Lib.hid hE
      obtain ⟨Sr, sr, er⟩ := r
      simp only at k1 hE hdf hfe
      clear hf hd hc he hE hr
      by_cases h33 : er = 33
      · subst h33
        go_wp2_with ((with_reducible refine k1.mono ?_); rintro e w2 ⟨rfl, p2, q2, c2⟩; have D2 := Lib.hid (HDD.out.act c2 p2 q2 hdf.out); have C2 := Lib.hid (HC.out.trans c2))
        exact ⟨⟨j + 1, by omega, by go_num, Sr, sr, hfe.out, D2.out, C2.out, by rw [HE.out]; simp⟩, by simp [intOf]; omega⟩
      · have d1 : (er != 33) = true := by simpa using h33
        have HH := Lib.hid h33
        clear h33
        go_wp2_with ((with_reducible refine k1.mono ?_); rintro e w2 ⟨rfl, p2, q2, c2⟩; have D2 := Lib.hid (HDD.out.act c2 p2 q2 hdf.out); have C2 := Lib.hid (HC.out.trans c2))
        go_ret
        rw [HE.out, if_neg HH.out]
        exact ⟨rfl, D2.out, C2.out⟩
    · obtain rfl : j = 8 := by omega
      have HDD := Lib.hid hd
      have HC := Lib.hid hc
      have HE := Lib.hid he
      clear hf hd hc he
      go_wp2_with fail
      go_ret
      rw [HE.out]
      exact ⟨rfl, HDD.out, HC.out⟩
end Go.Proofs.YtaafelhjcmgkdaaGreatDoor

