/- The contracts of disk's fill and move. Condition: the disk is there, its table sure; few acts so far. -/
import Derived.Test.YtdiocjneakfdgaaGreatDoorQDiskB
import Derived.Test.YtdiocjneakfdgaaGreatDoorQBbtB
namespace Go.Proofs.YtdiocjneakfdgaaGreatDoor
open Go.RowKit
theorem few_fills (b : Int) : ∀ (ps : List (List UInt8)) (i : Nat) (S : Ch) (s : NM.Pwr) (n : Nat), S.few n → (Ch.fills b i S s ps).1.few (n + ps.length)
  | [], _, _, _, _, h => h
  | p :: ps, i, S, s, n, h => by
    unfold Ch.fills
    rw [List.length_cons]
    split
    · have := few_fills b ps (i + 1) _ (S.program b (i : Int) p s).2.1 (n + 1) (few_program b (i : Int) p s n h)
      rw [show n + (ps.length + 1) = n + 1 + ps.length by omega]
      exact this
    · exact few_le (by omega) (few_program b (i : Int) p s n h)
theorem few_fill (S : Ch) (s : NM.Pwr) (b : Int) (ps : List (List UInt8)) (n : Nat) (h : S.few n) : (S.fill s b ps).1.few (n + 1 + ps.length) := by
  unfold Ch.fill
  split
  · exact few_fills b ps 0 _ _ (n + 1) (few_erase b s n h)
  · exact few_le (by omega) (few_erase b s n h)
theorem few_losing (S : Ch) (s : NM.Pwr) (l : Lay) (b : Int) (n : Nat) (h : S.few n) : (S.losing s l b).1.few (n + 24) := by
  unfold Ch.losing
  split
  · exact few_keep _ _ _ _ h
  · exact few_le (by omega) h
theorem few_swapping (S : Ch) (s : NM.Pwr) (l : Lay) (x b : Int) (n : Nat) (h : S.few n) : (S.swapping s l x b).1.few (n + 24) := by
  unfold Ch.swapping
  split
  · exact few_keep _ _ _ _ h
  · exact few_le (by omega) h
theorem few_move (x : Int) (ps : List (List UInt8)) : ∀ (k : Nat) (X : DS) (n : Nat), X.S.few n → (DS.move x ps k X).1.S.few (n + k * (25 + ps.length))
  | 0, X, n, h => few_le (by omega) h
  | k + 1, X, n, h => by
    unfold DS.move
    rw [show n + (k + 1) * (25 + ps.length) = n + 25 + ps.length + k * (25 + ps.length) by rw [Nat.succ_mul]; omega]
    cases X.l.spare with
    | none => exact few_le (by omega) h
    | some b =>
      have h1 := few_fill X.S X.s (b : Int) ps n h
      simp only
      split
      · exact few_le (by omega) (few_swapping _ _ _ _ _ _ h1)
      · split
        · exact few_le (by omega) h1
        · split
          · exact few_le (by omega) (few_losing _ _ _ _ _ h1)
          · refine few_le ?_ (few_move x ps k _ (n + 1 + ps.length + 24) (few_losing _ _ _ _ _ h1))
            omega
theorem may_ne33 (off live : Bool) (M b k : Int) : NM.may off live M b k ≠ 33 := by
  unfold NM.may
  split
  · decide
  · split
    · split <;> decide
    · decide
theorem few_dprogram (X : DS) (b k : Int) (p : List UInt8) (n : Nat) (h : X.S.few n) : (X.program b k p).1.S.few (n + 200) := by
  have h1 := few_program (X.at_ b) k p X.s n h
  unfold DS.program
  split
  · exact few_le (by omega) h1
  · rename_i h33
    have h33' : (X.S.program (X.at_ b) k p X.s).2.2 = 33 := by simpa using h33
    have hk : k.toNat < 8 := by
      have hm : NM.may X.s.off X.S.live X.S.bs.length (X.at_ b) k = 0 := by
        unfold Ch.program at h33'
        split at h33'
        · rename_i c
          exact (may_ne33 _ _ _ _ _ h33').elim
        · rename_i c
          simpa using c
      obtain ⟨_, _, _, _, c1, c2⟩ := may_zero hm
      omega
    have hl : ((X.S.program (X.at_ b) k p X.s).1.aheads (X.at_ b).toNat k.toNat ++ [p]).length ≤ 8 := by
      rw [List.length_append, aheads_length]
      show k.toNat + 1 ≤ 8
      omega
    refine few_le ?_ (few_move b _ (5 - X.l.losses) _ (n + 1) h1)
    have h5 : (5 - X.l.losses) * (25 + ((X.S.program (X.at_ b) k p X.s).1.aheads (X.at_ b).toNat k.toNat ++ [p]).length) ≤ 5 * (25 + 8) := Nat.mul_le_mul (by omega) (by omega)
    omega
theorem few_derase (X : DS) (b : Int) (n : Nat) (h : X.S.few n) : (X.erase b).1.S.few (n + 200) := by
  have h1 := few_erase (X.at_ b) X.s n h
  unfold DS.erase
  split
  · exact few_le (by omega) h1
  · refine few_le ?_ (few_move b [] (5 - X.l.losses) _ (n + 1) h1)
    show n + 1 + (5 - X.l.losses) * (25 + 0) ≤ n + 200
    omega
theorem Pages.chg {w w' : World} {v : Value} {L : List (List UInt8)} {T : Nat → Prop} (h : Pages w w.heap.size v L) (hc : Chg w w' T) (hT : ∀ p n c, v = .slice (some p) n c → ¬ T p.block) : Pages w' w'.heap.size v L := by
  obtain ⟨A, c, e, h1, h2, h3, h4⟩ := h
  refine ⟨A, c, e, h1, h2, fun j u hu => ?_, h4⟩
  obtain ⟨p, rfl, hp, hcell⟩ := h3 j u hu
  refine ⟨p, rfl, Nat.lt_of_lt_of_le hp hc.size, ?_⟩
  have hb := hc.block p.block hp (hT p _ _ e)
  have eb := add_block p j
  have e1 : w'.heap[(p.add j).block]? = w.heap[(p.add j).block]? := by rw [eb]; exact hb
  rw [← hcell]
  unfold World.cell?
  rw [e1]
section
variable {w : World} {d t : Nat} {a : At} {X : DS}
theorem Dk.act {w' : World} {S' : Ch} {s' : NM.Pwr} (h : Dk w d t a X) (hc : Chg w w' a.all) (h1 : PChip w' a S') (h2 : PPow w' a.p s') (hf : s'.fits) : Dk w' d t a ⟨S', s', X.l, X.u⟩ :=
  ⟨h.blk.chg hc h.da, h.tb.act hc, h.dev.act hc h1 h2 hf, h.dt, h.da, h.good⟩
set_option maxRecDepth 100000 in
set_option maxHeartbeats 16000000 in
theorem dfill_any (h : Dk w d t a X) (hsm : X.S.few 999600) (b : Int) {v : Value} {L : List (List UInt8)} (hv : Pages w w.heap.size v L) (hfar : ∀ p n c, v = .slice (some p) n c → ¬ a.all p.block) (hL : L.length ≤ 8) :
    Calls Tryz.prog 103 #[.pointer (some ⟨d, 0, none⟩), .int .i64 b, v] w fun e w' => e = .returned (.int .i64 (X.S.fill X.s b L).2.2) ∧ Dk w' d t a ⟨(X.S.fill X.s b L).1, (X.S.fill X.s b L).2.1, X.l, X.u⟩ ∧ Chg w w' a.all := by
  obtain ⟨A, c, rfl, hvc⟩ := id hv
  clear hvc
  obtain ⟨c0, _, _⟩ := h.cells
  have k1 := erase_any a X.S X.s b h.dev.fits (few_le (by omega) hsm) w h.dev.pc h.dev.pw
  have hdf := Lib.hid (erase_fits (S := X.S) b h.dev.fits)
  have hfe := Lib.hid (few_erase b X.s _ hsm)
  have HE : Hid (X.S.fill X.s b L = if (X.S.erase b X.s).2.2 = 0 then Ch.fills b 0 (X.S.erase b X.s).1 (X.S.erase b X.s).2.1 L else X.S.erase b X.s) := Lib.hid rfl
  obtain ⟨q, hq⟩ : ∃ q, q = X.S.fill X.s b L := ⟨_, rfl⟩
  rw [← hq] at HE ⊢
  obtain ⟨r, hr⟩ : ∃ r, r = X.S.erase b X.s := ⟨_, rfl⟩
  rw [← hr] at k1 hdf hfe HE
  obtain ⟨Sr, sr, er⟩ := r
  simp only at k1 hdf hfe HE
  have HX := Lib.hid h
  have HV := Lib.hid hv
  have HF := Lib.hid hfar
  have HL8 := Lib.hid hL
  have z := zeroPage
  clear h hsm hv hfar hq hr hL
  go_enter Tryz.func103, Tryz.ntmps103
  go_wp2_with fail
  ((with_reducible refine k1.mono ?_); rintro e w2 ⟨rfl, p2, q2, c2⟩)
  have D2 := Lib.hid (HX.out.act c2 p2 q2 hdf.out)
  have C2 := Lib.hid c2
  have V2 := Lib.hid (HV.out.chg c2 HF.out)
  clear c0 k1 p2 q2 c2 HX HV
  by_cases h0 : er = 0
  · subst h0
    have HE2 := Lib.hid (HE.out.trans (if_pos rfl))
    clear HE
    go_wp2_with fail
    go_loopw [22] (fun i wr => ∃ j : Nat, j ≤ L.length ∧ i = .int .i64 j ∧ ∃ (S' : Ch) (s' : NM.Pwr), S'.few (999601 + j) ∧ Dk wr d t a ⟨S', s', X.l, X.u⟩ ∧ Pages wr wr.heap.size (.slice A L.length c) L ∧ Chg w wr a.all ∧ q = Ch.fills b j S' s' (L.drop j)) (fun i _ => L.length - (intOf i).toNat)
    case atStart => exact ⟨0, Nat.zero_le _, rfl, Sr, sr, hfe.out, D2.out, V2.out, C2.out, by rw [HE2.out, List.drop_zero]⟩
    case round =>
      rename_i wr
      obtain ⟨j, hj, rfl, S', s', hf, hd, hp, hc, he⟩ := hrel
      clear D2 C2 V2 HE2 hfe
      by_cases hlt : j < L.length
      · have hB1 : Below wr.heap.size wr (wr.alloc (.cells (cl pzeros) 92)) := (Below.refl _ _).alloc (Nat.le_refl _) _
        have hLj : L[j]? = some L[j] := List.getElem?_eq_getElem hlt
        obtain ⟨pp, rfl, hld⟩ := hp.at_ hLj (w' := wr) (Below.refl _ _)
        have hl258 : (L[j]).length = 258 := by
          obtain ⟨_, _, _, _, _, _, h4⟩ := hp
          exact h4 _ (List.getElem_mem _)
        obtain ⟨pg, hpg⟩ : ∃ pg, pg = L[j] := ⟨_, rfl⟩
        rw [← hpg] at hld hl258
        have hE : q = if (S'.program b (j : Int) pg s').2.2 = 0 then Ch.fills b (j + 1) (S'.program b (j : Int) pg s').1 (S'.program b (j : Int) pg s').2.1 (L.drop (j + 1)) else S'.program b (j : Int) pg s' := by
          rw [he, List.drop_eq_getElem_cons hlt, Ch.fills, ← hpg]
        have hj8 : (j : Int) < 8 := by have := HL8.out; omega
        have N1 := PArr.new wr pzeros_length
        have HPL := Lib.hid hl258
        have hpf := Lib.hid (program_fits (S := S') b (j : Int) pg hd.dev.fits)
        have hpe := Lib.hid (few_program b (j : Int) pg s' _ hf)
        have kp := fun (W : World) (hW : Dk W d t a ⟨S', s', X.l, X.u⟩) => program_any a S' s' b (j : Int) pg hl258 hd.dev.fits (few_le (by have := HL8.out; omega) hf) W hW.dev.pc hW.dev.pw
        obtain ⟨r, hr⟩ : ∃ r, r = S'.program b (j : Int) pg s' := ⟨_, rfl⟩
        rw [← hr] at kp hE hpf hpe
        obtain ⟨S2', s2, e2⟩ := r
        simp only at kp hE hpf hpe
        have HDD := Lib.hid hd
        have HC := Lib.hid hc
        have HP := Lib.hid hp
        have HEE := Lib.hid hE
        have KP := Lib.hid kp
        have HB1 := Lib.hid hB1
        clear hf hd hc hp he hE hr hpg hl258 kp hB1 hLj
        have dl : decide ((j : Int) < (L.length : Int)) = true := by simp; omega
        go_wp2_with (first
          | (with_reducible refine wpl_pgload (.tmp 25) rfl rfl rfl hld ?_)
          | (with_reducible refine wpl_pstore (.tmp 9) (.tmp 26) rfl rfl N1 rfl HPL.out rfl ?_; intro w3 N3 g3 e3))
        have B3 : Below wr.heap.size wr w3 := HB1.out.grown g3 (by simp) (fun k e => Nat.le_of_eq (Option.some.inj e))
        have D3 := HDD.out.after B3
        have hgp : ¬ a.all wr.heap.size := fun q => Nat.lt_irrefl _ (HDD.out.dev.lt _ q)
        have S0 : w3.drew.cell? ⟨d, 0, none⟩ = some (.pointer (some ⟨a.c, 0, none⟩)) ∧ PArr w3.drew wr.heap.size pg := ⟨D3.cells.1, N3⟩
        refine wp_region_held_drew (S := fun w' => w'.cell? ⟨d, 0, none⟩ = some (.pointer (some ⟨a.c, 0, none⟩)) ∧ PArr w' wr.heap.size pg) (by kernel_rfl) S0 (fun _ => ?_)
        refine wpAnyH_take (i := 0) (v := .pointer (some ⟨d, 0, none⟩)) rfl (by kernel_rfl) (by kernel_rfl) (by kernel_rfl) (fun _ _ _ h => h) (Or.inl ⟨by kernel_rfl, fun w _ => by go_simp⟩) S0 ?_
        refine wpAnyH_take (i := 1) (v := .pointer (some ⟨d, 0, none⟩)) rfl (by kernel_rfl) (by kernel_rfl) (by kernel_rfl) (fun _ _ _ h => h) (Or.inl ⟨by kernel_rfl, fun w _ => by go_simp⟩) S0 ?_
        refine wpAnyH_take (i := 2) (v := .pointer (some ⟨d, 0, none⟩)) rfl (by kernel_rfl) (by kernel_rfl) (by kernel_rfl) (fun _ _ _ h => h) (Or.inl ⟨by kernel_rfl, fun w _ => by go_simp⟩) S0 ?_
        refine wpAnyH_take (i := 3) (v := .pointer (some ⟨a.c, 0, none⟩)) rfl (by kernel_rfl) (by kernel_rfl) (by kernel_rfl) (fun _ _ _ h => h) (yields_one (ty := 34) (fun w => by kernel_rfl) (.tmp 29) (by kernel_rfl) (by kernel_rfl) (by kernel_rfl) (fun _ h => h.1)) S0 ?_
        refine wpAnyH_take (i := 4) (v := .int .i64 b) rfl (by kernel_rfl) (by kernel_rfl) (by kernel_rfl) (fun _ _ _ h => h) (Or.inl ⟨by kernel_rfl, fun w _ => by go_simp⟩) S0 ?_
        refine wpAnyH_take (i := 5) (v := .int .i64 (j : Int)) rfl (by kernel_rfl) (by kernel_rfl) (by kernel_rfl) (fun _ _ _ h => h) (Or.inl ⟨by kernel_rfl, fun w _ => by go_simp⟩) S0 ?_
        refine wpAnyH_take (i := 6) (v := .agg (cl pg)) rfl (by kernel_rfl) (by kernel_rfl) (by kernel_rfl) (fun _ _ _ h => h) (yields_pload (g := wr.heap.size) (.tmp 9) (by kernel_rfl) (by kernel_rfl) (by kernel_rfl) (fun _ h => h.2)) S0 ?_
        refine wpAnyH_ready (rs := [7]) (by kernel_rfl) (by simp) (AllReadyH.cons rfl (fun K hK => ?_) AllReadyH.nil)
        go_simp
        have kq := KP.out w3.drew (D3.after (Below.refl _ _).drew)
        ((with_reducible refine kq.mono ?_); rintro e w4 ⟨rfl, p4, q4, c4⟩)
        have D4 := Lib.hid ((D3.after (Below.refl _ _).drew).act c4 p4 q4 hpf.out)
        have N4 : Hid (PArr w4 wr.heap.size pg) := Lib.hid ⟨(c4.block _ S0.2.lt hgp).trans S0.2.1, HPL.out⟩
        have C4 : Hid (Chg w w4 a.all) := Lib.hid ((HC.out.trans (Chg.of_below (B3.drew))).trans c4)
        have C4r : Hid (Chg wr w4 a.all) := Lib.hid ((Chg.of_below B3.drew).trans c4)
        have V4 := Lib.hid (HP.out.chg C4r.out HF.out)
        have S4 : w4.cell? ⟨d, 0, none⟩ = some (.pointer (some ⟨a.c, 0, none⟩)) ∧ PArr w4 wr.heap.size pg := ⟨D4.out.cells.1, N4.out⟩
        refine hK.out _ _ S4 (fun _ => ?_)
        clear hK K kq c4 p4 q4 D3 B3 g3 e3 KP HDD HC HP C4r
        refine wpAnyH_take (i := 8) (v := .int .i64 e2) rfl (by kernel_rfl) (by kernel_rfl) (by kernel_rfl) (fun _ _ _ h => h) (Or.inl ⟨by kernel_rfl, fun w _ => by go_simp⟩) S4 ?_
        refine wpAnyH_done (by kernel_rfl) ?_ _
        clear S0 S4 N3 N4 N1
        by_cases h2 : e2 = 0
        · subst h2
          go_wp2_with fail
          exact ⟨⟨j + 1, by omega, by go_num, S2', s2, hpe.out, D4.out, V4.out, C4.out, by rw [HEE.out]; simp⟩, by simp [intOf]; omega⟩
        · have d1 : (e2 != 0) = true := by simpa using h2
          have HH := Lib.hid h2
          clear h2
          go_wp2_with fail
          go_ret
          rw [HEE.out, if_neg HH.out]
          exact ⟨rfl, D4.out, C4.out⟩
      · obtain rfl : j = L.length := by omega
        have HDD := Lib.hid hd
        have HC := Lib.hid hc
        have HEE := Lib.hid he
        clear hf hd hc he hp
        have dl : decide ((L.length : Int) < (L.length : Int)) = false := by simp
        go_wp2_with fail
        go_ret
        rw [HEE.out, List.drop_length]
        exact ⟨rfl, HDD.out, HC.out⟩
  · have d1 : (er != 0) = true := by simpa using h0
    have HE2 := Lib.hid (HE.out.trans (if_neg h0))
    clear h0 HE
    go_wp2_with fail
    go_ret
    rw [HE2.out]
    exact ⟨rfl, D2.out, C2.out⟩
end
end Go.Proofs.YtdiocjneakfdgaaGreatDoor

