/- Several texts of the proof, joined: what each has is said at its head. -/
import Derived.Test.YtdiocjneakfdgaaGreatDoorQDiskMove
import Derived.Test.YtdiocjneakfdgaaGreatDoorQBbtForm
/- The contracts of disk's Program, Erase, Read, Len, Lost. Condition: the disk is there, its table sure; few acts so far. -/
namespace Go.Proofs.YtdiocjneakfdgaaGreatDoor
open Go.RowKit
theorem actN_fails {ends fails bad : Bool} {keep : Int} {whole failed : Nat} (h : (actN ends fails bad keep whole failed).2 = 33) : ends = false := by
  cases ends with
  | false => rfl
  | true => exact absurd (show (30 : Int) = 33 from h) (by decide)
theorem program_failed {S : Ch} {s : NM.Pwr} {b k : Int} {p : List UInt8} (h : (S.program b k p s).2.2 = 33) : NM.may (S.program b k p s).2.1.off (S.program b k p s).1.live ((S.program b k p s).1.bs.length : Int) b 0 = 0 ∧ 0 ≤ b ∧ 0 ≤ k ∧ k < 8 := by
  unfold Ch.program at h ⊢
  split at h
  · exact (may_ne33 _ _ _ _ _ h).elim
  · rename_i c
    have hm : NM.may s.off S.live S.bs.length b k = 0 := by simpa using c
    obtain ⟨m1, m2, m3, m4, m5, m6⟩ := may_zero hm
    rw [if_neg c]
    split at h
    · exact absurd (show (32 : Int) = 33 from h) (by decide)
    · rename_i c2
      rw [if_neg c2]
      have h2 : s.act.2 = false := actN_fails h
      have ho := act_on m1 h2
      obtain ⟨m, rfl⟩ : ∃ m : Nat, b = m := ⟨b.toNat, by omega⟩
      refine ⟨?_, m3, m5, by omega⟩
      have hl : ((S.setNext ((m : Int)).toNat (k.toNat + 1)).actP ((m : Int)).toNat k.toNat p s).1.bs.length = S.bs.length := by
        show (putPage (S.bs.set _ _) _ _ _).length = _
        rw [putPage_length, List.length_set]
      have hv : ((S.setNext ((m : Int)).toNat (k.toNat + 1)).actP ((m : Int)).toNat k.toNat p s).1.live = S.live := rfl
      show NM.may s.act.1.off ((S.setNext ((m : Int)).toNat (k.toNat + 1)).actP ((m : Int)).toNat k.toNat p s).1.live (((S.setNext ((m : Int)).toNat (k.toNat + 1)).actP ((m : Int)).toNat k.toNat p s).1.bs.length : Int) (m : Int) 0 = 0
      rw [hl, hv]
      exact may_here (k := 0) ho m2 (by omega) (by omega)
section
variable {w : World} {d t : Nat} {a : At} {X : DS}
set_option maxRecDepth 100000 in
set_option maxHeartbeats 32000000 in
theorem dprogram_any (h : Dk w d t a X) (hu : X.u = false) (hsm : X.S.few 999000) (b k : Int) {p : List UInt8} (hp : p.length = 258) :
    Calls Tryz.prog 75 #[.pointer (some ⟨d, 0, none⟩), .int .i64 b, .int .i64 k, .agg (cl p)] w fun e w' => e = .returned (.int .i64 (X.program b k p).2) ∧ Dk w' d t a (X.program b k p).1 ∧ Chg w w' (a.disk t d) := by
  have b0 : Below w.heap.size w (w.alloc (.cells (cl p) 92)) := (Below.refl _ _).alloc (Nat.le_refl _) _
  have h0 := h.after b0
  have ka := at_any h0 hu b
  have hlt := Lib.hid h.lt
  have hT0 := Lib.hid h.dev.tab.lt
  have N0 := PArr.new w hp
  have kp := fun (W : World) (hW : Dk W d t a X) => program_any a X.S X.s (X.at_ b) k p hp h.dev.fits (few_le (by omega) hsm) W hW.dev.pc hW.dev.pw
  have hpf := program_fits (S := X.S) (X.at_ b) k p h.dev.fits
  have hpe := few_program (X.at_ b) k p X.s _ hsm
  have hfl := program_failed (S := X.S) (s := X.s) (b := X.at_ b) (k := k) (p := p)
  obtain ⟨q, hq⟩ : ∃ q, q = X.program b k p := ⟨_, rfl⟩
  have he : q = if (X.S.program (X.at_ b) k p X.s).2.2 ≠ 33 then (⟨(X.S.program (X.at_ b) k p X.s).1, (X.S.program (X.at_ b) k p X.s).2.1, X.l, X.u⟩, (X.S.program (X.at_ b) k p X.s).2.2)
      else DS.move b ((X.S.program (X.at_ b) k p X.s).1.aheads (X.at_ b).toNat k.toNat ++ [p]) (5 - X.l.losses) ⟨(X.S.program (X.at_ b) k p X.s).1, (X.S.program (X.at_ b) k p X.s).2.1, X.l, X.u⟩ := hq
  rw [← hq]
  obtain ⟨r, hr⟩ : ∃ r, r = X.S.program (X.at_ b) k p X.s := ⟨_, rfl⟩
  rw [← hr] at kp hpf hpe hfl he
  obtain ⟨S1, s1, e1⟩ := r
  simp only at kp hpf hpe hfl he
  obtain ⟨A, hA⟩ : ∃ A, A = X.at_ b := ⟨_, rfl⟩
  rw [← hA] at ka kp hfl he
  have KP := Lib.hid kp
  have HPF := Lib.hid hpf
  have HPE := Lib.hid hpe
  have HFL := Lib.hid hfl
  have HE := Lib.hid he
  have H0 := Lib.hid h0
  have HB0 := Lib.hid b0
  have HPL := Lib.hid hp
  clear h hu hsm hp kp hpf hpe hfl he h0 hq hr hA b0
  go_enter Tryz.func75, Tryz.ntmps75
  go_wp2_with ((with_reducible refine ka.mono ?_); rintro e w' ⟨rfl, rfl⟩)
  have S0 : (w.alloc (.cells (cl p) 92)).drew.cell? ⟨d, 0, none⟩ = some (.pointer (some ⟨a.c, 0, none⟩)) ∧ PArr (w.alloc (.cells (cl p) 92)).drew w.heap.size p := ⟨H0.out.cells.1, N0⟩
  refine wp_region_held_drew (S := fun w' => w'.cell? ⟨d, 0, none⟩ = some (.pointer (some ⟨a.c, 0, none⟩)) ∧ PArr w' w.heap.size p) (by kernel_rfl) S0 (fun _ => ?_)
  refine wpAnyH_take (i := 0) (v := .pointer (some ⟨d, 0, none⟩)) rfl (by kernel_rfl) (by kernel_rfl) (by kernel_rfl) (fun _ _ _ h => h) (Or.inl ⟨by kernel_rfl, fun w _ => by go_simp⟩) S0 ?_
  refine wpAnyH_take (i := 1) (v := .pointer (some ⟨d, 0, none⟩)) rfl (by kernel_rfl) (by kernel_rfl) (by kernel_rfl) (fun _ _ _ h => h) (Or.inl ⟨by kernel_rfl, fun w _ => by go_simp⟩) S0 ?_
  refine wpAnyH_take (i := 2) (v := .pointer (some ⟨d, 0, none⟩)) rfl (by kernel_rfl) (by kernel_rfl) (by kernel_rfl) (fun _ _ _ h => h) (Or.inl ⟨by kernel_rfl, fun w _ => by go_simp⟩) S0 ?_
  refine wpAnyH_take (i := 3) (v := .pointer (some ⟨a.c, 0, none⟩)) rfl (by kernel_rfl) (by kernel_rfl) (by kernel_rfl) (fun _ _ _ h => h) (yields_one (ty := 34) (fun w => by kernel_rfl) (.tmp 18) (by kernel_rfl) (by kernel_rfl) (by kernel_rfl) (fun _ h => h.1)) S0 ?_
  refine wpAnyH_take (i := 4) (v := .int .i64 A) rfl (by kernel_rfl) (by kernel_rfl) (by kernel_rfl) (fun _ _ _ h => h) (Or.inl ⟨by kernel_rfl, fun w _ => by go_simp⟩) S0 ?_
  refine wpAnyH_take (i := 5) (v := .int .i64 k) rfl (by kernel_rfl) (by kernel_rfl) (by kernel_rfl) (fun _ _ _ h => h) (Or.inl ⟨by kernel_rfl, fun w _ => by go_simp⟩) S0 ?_
  refine wpAnyH_take (i := 6) (v := .agg (cl p)) rfl (by kernel_rfl) (by kernel_rfl) (by kernel_rfl) (fun _ _ _ h => h) (yields_pload (g := w.heap.size) (.tmp 7) (by kernel_rfl) (by kernel_rfl) (by kernel_rfl) (fun _ h => h.2)) S0 ?_
  refine wpAnyH_ready (rs := [7]) (by kernel_rfl) (by simp) (AllReadyH.cons rfl (fun K hK => ?_) AllReadyH.nil)
  go_simp
  have kq := KP.out _ (H0.out.after (Below.refl _ _).drew)
  ((with_reducible refine kq.mono ?_); rintro e w4 ⟨rfl, p4, q4, c4⟩)
  have hgp : ¬ a.all w.heap.size := fun q => Nat.lt_irrefl _ (hlt.out _ (.inl q))
  have D4 := Lib.hid ((H0.out.after (Below.refl _ _).drew).act c4 p4 q4 HPF.out)
  have N4 : Hid (PArr w4 w.heap.size p) := Lib.hid ⟨(c4.block _ S0.2.lt hgp).trans S0.2.1, HPL.out⟩
  have C4 : Hid (Chg w w4 a.all) := Lib.hid ((Chg.of_below (HB0.out.drew)).trans c4)
  have S4 : w4.cell? ⟨d, 0, none⟩ = some (.pointer (some ⟨a.c, 0, none⟩)) ∧ PArr w4 w.heap.size p := ⟨D4.out.cells.1, N4.out⟩
  refine hK.out _ _ S4 (fun _ => ?_)
  clear hK K kq c4 p4 q4 KP H0 ka
  refine wpAnyH_take (i := 8) (v := .int .i64 e1) rfl (by kernel_rfl) (by kernel_rfl) (by kernel_rfl) (fun _ _ _ h => h) (Or.inl ⟨by kernel_rfl, fun w _ => by go_simp⟩) S4 ?_
  refine wpAnyH_done (by kernel_rfl) ?_ _
  clear S0 S4 N0
  by_cases h33 : e1 = 33
  · subst h33
    rw [if_neg (by decide)] at HE
    obtain ⟨m1, m2, m3, m4⟩ := HFL.out rfl
    obtain ⟨An, rfl⟩ : ∃ n : Nat, A = n := ⟨A.toNat, by omega⟩
    obtain ⟨kn, rfl⟩ : ∃ n : Nat, k = n := ⟨k.toNat, by omega⟩
    rw [Int.toNat_natCast, Int.toNat_natCast] at HE
    have k5 := ahead_any D4.out An kn m1 (by omega)
    have HA5 := Lib.hid (may_zero m1).2.2.2.1
    have hk8 := Lib.hid (show kn < 8 by omega)
    clear m1 m2 m3 m4 HFL
    go_wp2_with fail
    ((with_reducible refine k5.mono ?_); rintro e w5 ⟨A5, c5, rfl, O5, b5⟩)
    have hlen : S1.aheads An kn = S1.aheads An kn := rfl
    obtain ⟨L5, hL5⟩ : ∃ L5, L5 = S1.aheads An kn := ⟨_, rfl⟩
    have hLl : L5.length = kn := by rw [hL5, aheads_length]
    have hL258 : ∀ l ∈ L5, l.length = 258 := fun l hl => by
      rw [hL5] at hl
      unfold Ch.aheads at hl
      obtain ⟨i, hi, rfl⟩ := List.mem_map.1 hl
      have hi' := List.mem_range.1 hi
      exact mendP_length (pageOf_length D4.out.dev.pc.bg.2 (by have := HA5.out; show An < S1.bs.length; omega) (by have := hk8.out; omega))
    rw [← hL5] at O5 HE
    have D5 := Lib.hid (D4.out.after b5)
    have N5 := N4.out.after b5
    have C5 : Hid (Chg w w5 a.all) := Lib.hid (C4.out.trans (Chg.of_below b5))
    have hs4 : Hid (w.heap.size ≤ w4.heap.size ∧ w4.heap.size ≤ w5.heap.size) := Lib.hid ⟨C4.out.size, b5.size⟩
    have O6 := World.ownsRow.alloc O5 (.cells (cl p) 92)
    have P6 := PArr.new w5 HPL.out
    have hbs : w4.heap.size ≤ (w5.alloc (.cells (cl p) 92)).heap.size := by rw [World.size_alloc]; have := b5.size; omega
    clear k5 C4 N4 D4 O5 b5 hlen hL5
    go_wp2_with (first
      | (with_reducible refine wpl_pload (.tmp 7) rfl rfl N5 rfl ?_)
      | (with_reducible refine wpl_pgslice rfl (.tmp 40) rfl HPL.out rfl ?_)
      | (at_builtin; refine wpl_append_page (v := .slice A5 kn c5) rfl (.tmp 39) (.tmp 41) rfl rfl O6 P6 rfl (by have := hk8.out; omega) hbs ?_; intro A8 c8 w8 O8 g8))
    have hll : (L5 ++ [p]).length = kn + 1 := by rw [List.length_append, hLl]; rfl
    have O9 : w8.ownsRow w4.heap.size 92 258 (.slice A8 (kn + 1) c8) (L5 ++ [p]).length ((L5 ++ [p]).flatMap bv) := by
      rw [hll, List.flatMap_append, List.flatMap_singleton]
      exact O8
    have V8 := Pages.own O9 (fun l hl => by
      rcases List.mem_append.1 hl with q | q
      · exact hL258 l q
      · rw [List.mem_singleton.1 q]; exact HPL.out)
    have b6 : Below w4.heap.size w5 (w5.alloc (.cells (cl p) 92)) := (Below.refl _ _).alloc hs4.out.2 _
    have b8 : Below w4.heap.size w5 w8 := b6.grown g8 hbs (fun k e => (World.ownsRow.lt O6 k e).1)
    have c8' : Chg w5 w8 (fun j => w4.heap.size ≤ j) := ⟨b8.os, b8.tape, b8.output, b8.size, fun k hk hn => b8.block k (by omega)⟩
    have hd5 : ∀ k, a.disk t d k → k < w4.heap.size := fun k hk => Nat.lt_of_lt_of_le (hlt.out k hk) hs4.out.1
    have D8 := D5.out.chg c8' (fun k hk => by
      rcases hk with hk | rfl
      · exact fun q => by have := hd5 k hk; omega
      · exact fun q => by have := hT0.out; have := hs4.out.1; omega)
    have hfar8 : ∀ p n c, (.slice A8 (kn + 1) c8 : Value) = .slice (some p) n c → ¬ a.disk t d p.block := fun p n c e q => by
      have h1 := (World.ownsRow.lt O8 p.block (by rw [e]; rfl)).1
      have := hd5 _ q
      omega
    have km := move_any D8 (few_le (by omega) HPE.out) b V8 hfar8 (by rw [hll]; have := hk8.out; omega)
    simp only at km
    rw [← HE.out] at km
    have C8 : Hid (Chg w w8 a.all) := Lib.hid (((C5.out.more (T := fun j => a.all j ∨ w4.heap.size ≤ j) (fun k _ q => .inl q)).trans (c8'.more (fun k _ q => .inr q))).more (fun k hk q => q.elim id (fun q => by have := hs4.out.1; omega)))
    clear hd5 V8 O9 O8 O6 P6 g8 b8 b6 c8' D8 hfar8 D5 C5 N5
    go_wp2_with fail
    ((with_reducible refine km.mono ?_); rintro e w9 ⟨rfl, d9, c9⟩)
    go_wp2_with fail
    go_ret
    exact ⟨rfl, d9, (C8.out.more (fun k _ q => .inl q)).trans c9⟩
  · have d1 : (e1 != 33) = true := by simpa using h33
    rw [if_pos h33] at HE
    clear h33
    go_wp2_with fail
    go_ret
    rw [HE.out]
    exact ⟨rfl, D4.out, C4.out.more (fun k _ q => .inl q)⟩
end
end Go.Proofs.YtdiocjneakfdgaaGreatDoor

/- The contracts of disk's Erase, Read, Len, Lost. Condition: the disk is there, its table sure; few acts so far. -/
namespace Go.Proofs.YtdiocjneakfdgaaGreatDoor
open Go.RowKit
section
variable {w : World} {d t : Nat} {a : At} {X : DS}
set_option maxRecDepth 100000 in
set_option maxHeartbeats 32000000 in
theorem derase_any (h : Dk w d t a X) (hu : X.u = false) (hsm : X.S.few 999000) (b : Int) :
    Calls Tryz.prog 50 #[.pointer (some ⟨d, 0, none⟩), .int .i64 b] w fun e w' => e = .returned (.int .i64 (X.erase b).2) ∧ Dk w' d t a (X.erase b).1 ∧ Chg w w' (a.disk t d) := by
  have ka := fun (W : World) (hW : Dk W d t a X) => at_any hW hu b
  have kp := fun (W : World) (hW : Dk W d t a X) => erase_any a X.S X.s (X.at_ b) h.dev.fits (few_le (by omega) hsm) W hW.dev.pc hW.dev.pw
  have hpf := erase_fits (S := X.S) (X.at_ b) h.dev.fits
  have hpe := few_erase (X.at_ b) X.s _ hsm
  obtain ⟨q, hq⟩ : ∃ q, q = X.erase b := ⟨_, rfl⟩
  have he : q = if (X.S.erase (X.at_ b) X.s).2.2 ≠ 33 then (⟨(X.S.erase (X.at_ b) X.s).1, (X.S.erase (X.at_ b) X.s).2.1, X.l, X.u⟩, (X.S.erase (X.at_ b) X.s).2.2)
      else DS.move b [] (5 - X.l.losses) ⟨(X.S.erase (X.at_ b) X.s).1, (X.S.erase (X.at_ b) X.s).2.1, X.l, X.u⟩ := hq
  rw [← hq]
  obtain ⟨r, hr⟩ : ∃ r, r = X.S.erase (X.at_ b) X.s := ⟨_, rfl⟩
  rw [← hr] at kp hpf hpe he
  obtain ⟨S1, s1, e1⟩ := r
  simp only at kp hpf hpe he
  obtain ⟨A, hA⟩ : ∃ A, A = X.at_ b := ⟨_, rfl⟩
  rw [← hA] at ka kp
  have KA := Lib.hid ka
  have KP := Lib.hid kp
  have HPF := Lib.hid hpf
  have HPE := Lib.hid hpe
  have HE := Lib.hid he
  have H0 := Lib.hid h
  clear h hu hsm kp hpf hpe he hq hr hA ka
  go_enter Tryz.func50, Tryz.ntmps50
  go_wp2_with fail
  have S0 : Dk w.drew d t a X := H0.out.after (Below.refl _ _).drew
  refine wp_region_held_drew (S := fun w' => w'.cell? ⟨d, 0, none⟩ = some (.pointer (some ⟨a.c, 0, none⟩))) (by kernel_rfl) S0.cells.1 (fun _ => ?_)
  refine wpAnyH_take (i := 0) (v := .pointer (some ⟨d, 0, none⟩)) rfl (by kernel_rfl) (by kernel_rfl) (by kernel_rfl) (fun _ _ _ h => h) (Or.inl ⟨by kernel_rfl, fun w _ => by go_simp⟩) S0.cells.1 ?_
  refine wpAnyH_take (i := 1) (v := .pointer (some ⟨d, 0, none⟩)) rfl (by kernel_rfl) (by kernel_rfl) (by kernel_rfl) (fun _ _ _ h => h) (Or.inl ⟨by kernel_rfl, fun w _ => by go_simp⟩) S0.cells.1 ?_
  refine wpAnyH_take (i := 2) (v := .pointer (some ⟨d, 0, none⟩)) rfl (by kernel_rfl) (by kernel_rfl) (by kernel_rfl) (fun _ _ _ h => h) (Or.inl ⟨by kernel_rfl, fun w _ => by go_simp⟩) S0.cells.1 ?_
  refine wpAnyH_take (i := 3) (v := .pointer (some ⟨a.c, 0, none⟩)) rfl (by kernel_rfl) (by kernel_rfl) (by kernel_rfl) (fun _ _ _ h => h) (yields_one (ty := 34) (fun w => by kernel_rfl) (.tmp 8) (by kernel_rfl) (by kernel_rfl) (by kernel_rfl) (fun _ h => h)) S0.cells.1 ?_
  refine wpAnyH_take (i := 4) (v := .pointer (some ⟨d, 0, none⟩)) rfl (by kernel_rfl) (by kernel_rfl) (by kernel_rfl) (fun _ _ _ h => h) (Or.inl ⟨by kernel_rfl, fun w _ => by go_simp⟩) S0.cells.1 ?_
  refine wpAnyH_take (i := 5) (v := .int .i64 b) rfl (by kernel_rfl) (by kernel_rfl) (by kernel_rfl) (fun _ _ _ h => h) (Or.inl ⟨by kernel_rfl, fun w _ => by go_simp⟩) S0.cells.1 ?_
  refine wpAnyH_ready (rs := [6]) (by kernel_rfl) (by simp) (AllReadyH.cons rfl (fun K hK => ?_) AllReadyH.nil)
  go_simp
  have kq := KA.out _ S0
  ((with_reducible refine kq.mono ?_); rintro e w' ⟨rfl, rfl⟩)
  refine hK.out _ _ S0.cells.1 (fun _ => ?_)
  clear hK K kq
  refine wpAnyH_ready (rs := [7]) (by kernel_rfl) (by simp) (AllReadyH.cons rfl (fun K hK => ?_) AllReadyH.nil)
  go_simp
  have kq := KP.out _ S0
  ((with_reducible refine kq.mono ?_); rintro e w4 ⟨rfl, p4, q4, c4⟩)
  have D4 := Lib.hid (S0.act c4 p4 q4 HPF.out)
  have C4 : Hid (Chg w w4 a.all) := Lib.hid ((Chg.of_below ((Below.refl _ _).drew)).trans c4)
  refine hK.out _ _ D4.out.cells.1 (fun _ => ?_)
  clear hK K kq c4 p4 q4 KP KA
  refine wpAnyH_take (i := 8) (v := .int .i64 e1) rfl (by kernel_rfl) (by kernel_rfl) (by kernel_rfl) (fun _ _ _ h => h) (Or.inl ⟨by kernel_rfl, fun w _ => by go_simp⟩) D4.out.cells.1 ?_
  refine wpAnyH_done (by kernel_rfl) ?_ _
  clear S0
  by_cases h33 : e1 = 33
  · subst h33
    rw [if_neg (by decide)] at HE
    have km := move_any D4.out (few_le (by omega) HPE.out) b (Pages.nil w4 w4.heap.size) (fun p n c e => by cases e) (by simp)
    simp only at km
    rw [← HE.out] at km
    clear D4
    go_wp2_with fail
    ((with_reducible refine km.mono ?_); rintro e w9 ⟨rfl, d9, c9⟩)
    go_wp2_with fail
    go_ret
    exact ⟨rfl, d9, (C4.out.more (fun k _ q => .inl q)).trans c9⟩
  · have d1 : (e1 != 33) = true := by simpa using h33
    rw [if_pos h33] at HE
    clear h33
    go_wp2_with fail
    go_ret
    rw [HE.out]
    exact ⟨rfl, D4.out, C4.out.more (fun k _ q => .inl q)⟩
/-- the page that Read gives -/
def DS.pageE (X : DS) (b k : Int) : Int := NM.may X.s.off X.S.live X.S.bs.length (X.at_ b) k
def DS.page (X : DS) (b k : Int) : List UInt8 := X.S.readPage (X.pageE b k) (X.at_ b) k
theorem DS.page_length (h : Dk w d t a X) (b k : Int) : (X.page b k).length = 258 := by
  unfold DS.page Ch.readPage
  split
  · rename_i h0
    obtain ⟨m1, m2, m3, m4, m5, m6⟩ := may_zero h0
    exact pageOf_length h.dev.pc.bg.2 (by omega) (by omega)
  · exact pzeros_length
set_option maxRecDepth 100000 in
set_option maxHeartbeats 16000000 in
theorem dread_any (h : Dk w d t a X) (hu : X.u = false) (b k : Int) :
    Calls Tryz.prog 52 #[.pointer (some ⟨d, 0, none⟩), .int .i64 b, .int .i64 k] w fun e w' => e = .returned (.tuple #[.agg (cl (X.page b k)), .int .i64 (X.pageE b k)]) ∧ Below w.heap.size w w' := by
  have z := zeroPage
  have b0 : Below w.heap.size w (w.alloc (.cells (cl pzeros) 92)) := (Below.refl _ _).alloc (Nat.le_refl _) _
  have N0 := PArr.new w pzeros_length
  have hpl := DS.page_length h b k
  have hdl := Lib.hid h.blk.lt
  have S0 : Dk (w.alloc (.cells (cl pzeros) 92)).drew d t a X := (h.after b0).after (Below.refl _ _).drew
  have ka := at_any S0 hu b
  have kr := fun (W : World) (hW : Dk W d t a X) => cread_any a X.S X.s (X.at_ b) k W hW.dev.pc hW.dev.pw
  have e1 : NM.may X.s.off X.S.live X.S.bs.length (X.at_ b) k = X.pageE b k := rfl
  have e2 : X.S.readPage (X.pageE b k) (X.at_ b) k = X.page b k := rfl
  rw [e1, e2] at kr
  obtain ⟨er, her⟩ : ∃ er, er = X.pageE b k := ⟨_, rfl⟩
  obtain ⟨pg, hpg⟩ : ∃ pg, pg = X.page b k := ⟨_, rfl⟩
  obtain ⟨A, hA⟩ : ∃ A, A = X.at_ b := ⟨_, rfl⟩
  rw [← hA] at ka kr
  rw [← hpg, ← her] at kr ⊢
  rw [← hpg] at hpl
  have HPL := Lib.hid hpl
  have KR := Lib.hid kr
  have HS := Lib.hid S0
  have HB := Lib.hid b0
  have HN := Lib.hid N0
  clear h hu e1 e2 her hpg hA kr hpl b0 N0
  go_enter Tryz.func52, Tryz.ntmps52
  go_wp2_with fail
  refine wp_region_held_drew (S := fun w' => w'.cell? ⟨d, 0, none⟩ = some (.pointer (some ⟨a.c, 0, none⟩))) (by kernel_rfl) S0.cells.1 (fun _ => ?_)
  refine wpAnyH_take (i := 0) (v := .pointer (some ⟨d, 0, none⟩)) rfl (by kernel_rfl) (by kernel_rfl) (by kernel_rfl) (fun _ _ _ h => h) (Or.inl ⟨by kernel_rfl, fun w _ => by go_simp⟩) S0.cells.1 ?_
  refine wpAnyH_take (i := 1) (v := .pointer (some ⟨d, 0, none⟩)) rfl (by kernel_rfl) (by kernel_rfl) (by kernel_rfl) (fun _ _ _ h => h) (Or.inl ⟨by kernel_rfl, fun w _ => by go_simp⟩) S0.cells.1 ?_
  refine wpAnyH_take (i := 2) (v := .pointer (some ⟨d, 0, none⟩)) rfl (by kernel_rfl) (by kernel_rfl) (by kernel_rfl) (fun _ _ _ h => h) (Or.inl ⟨by kernel_rfl, fun w _ => by go_simp⟩) S0.cells.1 ?_
  refine wpAnyH_take (i := 3) (v := .pointer (some ⟨a.c, 0, none⟩)) rfl (by kernel_rfl) (by kernel_rfl) (by kernel_rfl) (fun _ _ _ h => h) (yields_one (ty := 34) (fun w => by kernel_rfl) (.tmp 10) (by kernel_rfl) (by kernel_rfl) (by kernel_rfl) (fun _ h => h)) S0.cells.1 ?_
  refine wpAnyH_take (i := 4) (v := .pointer (some ⟨d, 0, none⟩)) rfl (by kernel_rfl) (by kernel_rfl) (by kernel_rfl) (fun _ _ _ h => h) (Or.inl ⟨by kernel_rfl, fun w _ => by go_simp⟩) S0.cells.1 ?_
  refine wpAnyH_take (i := 5) (v := .int .i64 b) rfl (by kernel_rfl) (by kernel_rfl) (by kernel_rfl) (fun _ _ _ h => h) (Or.inl ⟨by kernel_rfl, fun w _ => by go_simp⟩) S0.cells.1 ?_
  refine wpAnyH_take (i := 7) (v := .int .i64 k) rfl (by kernel_rfl) (by kernel_rfl) (by kernel_rfl) (fun _ _ _ h => h) (Or.inl ⟨by kernel_rfl, fun w _ => by go_simp⟩) S0.cells.1 ?_
  refine wpAnyH_ready (rs := [6]) (by kernel_rfl) (by simp) (AllReadyH.cons rfl (fun K hK => ?_) AllReadyH.nil)
  go_simp
  ((with_reducible refine ka.mono ?_); rintro e w' ⟨rfl, rfl⟩)
  refine hK.out _ _ S0.cells.1 (fun _ => ?_)
  clear hK K ka
  refine wpAnyH_ready (rs := [8]) (by kernel_rfl) (by simp) (AllReadyH.cons rfl (fun K hK => ?_) AllReadyH.nil)
  go_simp
  have kq := KR.out _ S0
  ((with_reducible refine kq.mono ?_); rintro e w4 ⟨rfl, b4⟩)
  have D4 := HS.out.after b4
  have N4 := HN.out.drew.after b4
  refine hK.out _ _ D4.cells.1 (fun _ => ?_)
  clear hK K kq KR S0 HS
  refine wpAnyH_take (i := 9) (v := .agg (cl pg)) rfl (by kernel_rfl) (by kernel_rfl) (by kernel_rfl) (fun _ _ _ h => h) (Or.inl ⟨by kernel_rfl, fun w _ => by go_simp⟩) D4.cells.1 ?_
  refine wpAnyH_take (i := 10) (v := .int .i64 er) rfl (by kernel_rfl) (by kernel_rfl) (by kernel_rfl) (fun _ _ _ h => h) (Or.inl ⟨by kernel_rfl, fun w _ => by go_simp⟩) D4.cells.1 ?_
  refine wpAnyH_ready (rs := [11]) (by kernel_rfl) (by simp) (AllReadyH.cons rfl (fun K hK => ?_) AllReadyH.nil)
  rw [if_pos (by kernel_rfl)]
  refine op_pstore (.tmp 6) (.tmp 17) (by kernel_rfl) N4 (by kernel_rfl) HPL.out (by kernel_rfl) ?_
  intro w5 N5 g5
  have B5 : Below w.heap.size w w5 := ((HB.out.drew).trans (b4.mono HB.out.size)).grown g5 (Nat.le_trans HB.out.size b4.size) (fun k e => Nat.le_of_eq (Option.some.inj e))
  have D5 : w5.cell? ⟨d, 0, none⟩ = some (.pointer (some ⟨a.c, 0, none⟩)) := (D4.blk.grown g5 (fun e => by have := Option.some.inj e; have := hdl.out; omega)).cell 0
  refine hK.out _ _ D5 (fun _ => ?_)
  clear hK K
  refine wpAnyH_take (i := 12) (v := .int .i64 er) rfl (by kernel_rfl) (by kernel_rfl) (by kernel_rfl) (fun _ _ _ h => h) (Or.inl ⟨by kernel_rfl, fun w _ => by go_simp⟩) D5 ?_
  refine wpAnyH_done (by kernel_rfl) ?_ _
  go_wp2_with fail
  refine bodyPost_ret (pret2 rfl _ N5 rfl) rfl ?_
  exact ⟨rfl, B5⟩
theorem dlen_any (h : Dk w d t a X) : Calls Tryz.prog 14 #[.pointer (some ⟨d, 0, none⟩)] w fun e w' => e = .returned (.int .i64 ((X.l.n - 6 : Nat) : Int)) ∧ w = w' := by
  obtain ⟨_, c1, _⟩ := h.cells
  have k1 := tlen_any h.tb h.good.ok
  clear h
  go_enter Tryz.func14, Tryz.ntmps14
  go_wp2_with ((with_reducible refine k1.mono ?_); rintro e w' ⟨rfl, rfl⟩)
  go_ret
  exact ⟨rfl, rfl⟩
end
end Go.Proofs.YtdiocjneakfdgaaGreatDoor

/- The contracts of disk's Format and Open. Condition: the chip is there; few acts so far. -/
namespace Go.Proofs.YtdiocjneakfdgaaGreatDoor
open Go.RowKit
section
variable {w : World} {a : At} {S : Ch} {s : NM.Pwr}
theorem buildDisk (c t : Nat) (w : World) : (Instr.build 37 #[(0, .pointer (some ⟨c, 0, none⟩)), (1, .pointer (some ⟨t, 0, none⟩))]).run Tryz.prog w = .ok (.agg #[.pointer (some ⟨c, 0, none⟩), .pointer (some ⟨t, 0, none⟩), .bool false]) w := by kernel_rfl
set_option maxRecDepth 100000 in
set_option maxHeartbeats 4000000 in
/-- over, where a table comes from there -/
theorem over_format (c : Nat) (w : World) (R : Nat → World → Prop) (hk : Calls Tryz.prog 43 #[.pointer (some ⟨c, 0, none⟩)] w fun e w' => ∃ t, e = .returned (.tuple #[.pointer (some ⟨t, 0, none⟩), .int .i64 0]) ∧ R t w') :
    Calls Tryz.prog 42 #[.pointer (some ⟨c, 0, none⟩), .func (.func 43) #[] #[]] w fun e w' => ∃ t w1, e = .returned (.tuple #[.pointer (some ⟨w1.heap.size, 0, none⟩), .int .i64 0]) ∧ R t w1 ∧ w' = w1.alloc (.cells #[.pointer (some ⟨c, 0, none⟩), .pointer (some ⟨t, 0, none⟩), .bool false] 37) := by
  have hb := buildDisk
  go_enter Tryz.func42, Tryz.ntmps42
  go_wp2_with ((with_reducible refine hk.mono ?_); rintro e w1 ⟨t, rfl, hR⟩)
  go_ret2
  exact ⟨t, w1, rfl, hR, rfl⟩
set_option maxRecDepth 100000 in
set_option maxHeartbeats 4000000 in
/-- over, where a table comes from there -/
theorem over_open (c : Nat) (w : World) (R : Nat → World → Prop) (hk : Calls Tryz.prog 55 #[.pointer (some ⟨c, 0, none⟩)] w fun e w' => ∃ t, e = .returned (.tuple #[.pointer (some ⟨t, 0, none⟩), .int .i64 0]) ∧ R t w') :
    Calls Tryz.prog 42 #[.pointer (some ⟨c, 0, none⟩), .func (.func 55) #[] #[]] w fun e w' => ∃ t w1, e = .returned (.tuple #[.pointer (some ⟨w1.heap.size, 0, none⟩), .int .i64 0]) ∧ R t w1 ∧ w' = w1.alloc (.cells #[.pointer (some ⟨c, 0, none⟩), .pointer (some ⟨t, 0, none⟩), .bool false] 37) := by
  have hb := buildDisk
  go_enter Tryz.func42, Tryz.ntmps42
  go_wp2_with ((with_reducible refine hk.mono ?_); rintro e w1 ⟨t, rfl, hR⟩)
  go_ret2
  exact ⟨t, w1, rfl, hR, rfl⟩
/-- a disk that was built now -/
theorem Dk.born {w1 : World} {t : Nat} {l : Lay} (D : Dev w1 a S s) (T : Tb w1 t a l) (hg : l.good) : Dk (w1.alloc (.cells #[.pointer (some ⟨a.c, 0, none⟩), .pointer (some ⟨t, 0, none⟩), .bool false] 37)) w1.heap.size t a ⟨S, s, l, false⟩ := by
  have hb : Below w1.heap.size w1 (w1.alloc (.cells #[.pointer (some ⟨a.c, 0, none⟩), .pointer (some ⟨t, 0, none⟩), .bool false] 37)) := (Below.refl _ _).alloc (Nat.le_refl _) _
  exact ⟨Blk.new w1 _ [.pointer (some ⟨a.c, 0, none⟩), .pointer (some ⟨t, 0, none⟩), .bool false], T.after hb, D.after hb, fun e => by have := T.blk.lt; omega, fun q => by have := D.lt _ q; omega, hg⟩
set_option maxRecDepth 100000 in
set_option maxHeartbeats 8000000 in
theorem dformat_main (l : Lay) (hD : Dev w a S s) (h0 : S.mayE s = 0) (hf : S.fresh = some l) (hsm : S.few 999700) (hg : l.good) (hk : (S.keep s l).2.2 = 0) : Calls Tryz.prog 20 #[.pointer (some ⟨a.c, 0, none⟩)] w fun e w' => ∃ d t, w.heap.size ≤ t ∧ w.heap.size ≤ d ∧ e = .returned (.tuple #[.pointer (some ⟨d, 0, none⟩), .int .i64 0]) ∧ Dk w' d t a ⟨(S.keep s l).1, (S.keep s l).2.1, l, false⟩ ∧ Chg w w' a.all := by
  have k1 := format_main l hD h0 hf hsm
  rw [hk] at k1
  obtain ⟨r, hr⟩ : ∃ r, r = S.keep s l := ⟨_, rfl⟩
  rw [← hr] at k1 hk ⊢
  obtain ⟨Sr, sr, er⟩ := r
  simp only at k1 hk ⊢
  have e0 : ∀ t, tptr 0 t = .pointer (some ⟨t, 0, none⟩) := fun t => if_pos rfl
  simp only [e0] at k1
  have k2 := over_format a.c w (fun t w' => w.heap.size ≤ t ∧ Dev w' a Sr sr ∧ Tb w' t a l ∧ Chg w w' a.all) (k1.mono fun e w' ⟨t, h1, h2, h3, h4, h5⟩ => ⟨t, h2, h1, h3, h4 trivial, h5⟩)
  have HG := Lib.hid hg
  clear hD h0 hf hsm hk hr e0 hg k1
  go_enter Tryz.func20, Tryz.ntmps20
  go_wp2_with ((with_reducible refine k2.mono ?_); rintro e w2 ⟨t, w1, rfl, ⟨h1, h2, h3, h4⟩, rfl⟩)
  go_ret2
  exact ⟨w1.heap.size, t, h1, h4.size, rfl, Dk.born h2 h3 HG.out, h4.trans (Chg.of_below ((Below.refl _ _).alloc (Nat.le_refl _) _))⟩
set_option maxRecDepth 100000 in
set_option maxHeartbeats 8000000 in
theorem dopen_some (hD : Dev w a S s) (h0 : S.lookE s = 0) (hg : (keptOf (S.lookK s)).lay.good) : Calls Tryz.prog 32 #[.pointer (some ⟨a.c, 0, none⟩)] w fun e w' => ∃ d t, w.heap.size ≤ t ∧ w.heap.size ≤ d ∧ e = .returned (.tuple #[.pointer (some ⟨d, 0, none⟩), .int .i64 0]) ∧ Dk w' d t a ⟨S, s, (keptOf (S.lookK s)).lay, false⟩ ∧ Below w.heap.size w w' := by
  have k1 := open_some hD h0
  obtain ⟨l, hl⟩ : ∃ l, l = (keptOf (S.lookK s)).lay := ⟨_, rfl⟩
  rw [← hl] at k1 hg ⊢
  have k2 := over_open a.c w (fun t w' => w.heap.size ≤ t ∧ Dev w' a S s ∧ Tb w' t a l ∧ Below w.heap.size w w') (k1.mono fun e w' ⟨t, h1, h2, h3, h4⟩ => ⟨t, h2, h1, hD.after h4, h3, h4⟩)
  have HG := Lib.hid hg
  clear hD h0 hl hg k1
  go_enter Tryz.func32, Tryz.ntmps32
  go_wp2_with ((with_reducible refine k2.mono ?_); rintro e w2 ⟨t, w1, rfl, ⟨h1, h2, h3, h4⟩, rfl⟩)
  go_ret2
  exact ⟨w1.heap.size, t, h1, h4.size, rfl, Dk.born h2 h3 HG.out, h4.alloc h4.size _⟩
end
end Go.Proofs.YtdiocjneakfdgaaGreatDoor

/- A disk for a law: what its blocks hold; its calls while the power lasts. Condition: the disk is in order; few calls so far. -/
namespace Go.Proofs.YtdiocjneakfdgaaGreatDoor
open Go.RowKit
/-- a page that stays the same when it is mended -/
def Stable (p : List UInt8) : Prop := p.length = 258 ∧ mendP p = p
/-- a block holds these pages, and takes the next one -/
structure Has (B : Bk) (L : List (List UInt8)) : Prop where
  nx : B.nx = L.length
  pg : ∀ i, i < L.length → B.pg.getD i [] = L.getD i []
  ff : ∀ i, L.length ≤ i → i < 8 → B.pg.getD i [] = NM.ff
theorem Has.blank : Has Bk.blank [] := ⟨rfl, fun _ h => absurd h (Nat.not_lt_zero _), fun _ _ h => ffs_at h⟩
theorem getD_mem {L : List (List UInt8)} {i : Nat} (h : i < L.length) : L.getD i [] ∈ L := by
  rw [List.getD_eq_getElem?_getD, List.getElem?_eq_getElem h]
  exact List.getElem_mem _
/-- a disk in order, its power on and lasting -/
structure Disk1 (w : World) (d t : Nat) (a : At) (X : DS) (N f e K : Nat) : Prop where
  dk : Dk w d t a X
  ok : DOk X N f e K
  on : X.s.off = false
  last : X.s.after < 0
  u : X.u = false
  few : X.S.few (200 * K)
section
variable {w w' : World} {d t : Nat} {a : At} {X : DS} {N f e K : Nat}
theorem Disk1.after (h : Disk1 w d t a X N f e K) (hb : Below w.heap.size w w') : Disk1 w' d t a X N f e K := ⟨h.dk.after hb, h.ok, h.on, h.last, h.u, h.few⟩
theorem at_lt (h : DOk X N f e K) {b : Nat} (hb : b < N - 6) : X.at_ (b : Int) = ((X.l.at_.getD b 0 : Nat) : Int) ∧ X.l.at_.getD b 0 < X.S.bs.length := by
  have hsz := h.sz
  refine ⟨DS.at_here hsz hb, ?_⟩
  obtain ⟨_, _, hn, _⟩ := h.good.here (x := b) (by omega)
  rw [h.fine.len]
  omega
theorem Disk1.pageE (h : Disk1 w d t a X N f e K) {b k : Nat} (hb : b < N - 6) (hk : k < 8) : X.pageE (b : Int) (k : Int) = 0 ∧ X.page (b : Int) (k : Int) = (X.blk b).pg.getD k [] := by
  obtain ⟨ha, hl⟩ := at_lt h.ok hb
  have hm : X.pageE (b : Int) (k : Int) = 0 := by
    unfold DS.pageE
    rw [ha]
    exact may_here h.on h.ok.fine.live hl hk
  refine ⟨hm, ?_⟩
  unfold DS.page Ch.readPage
  rw [hm, if_pos rfl, ha, Int.toNat_natCast, Int.toNat_natCast]
  rfl
theorem Disk1.read (h : Disk1 w d t a X N f e K) {b k : Nat} (hb : b < N - 6) (hk : k < 8) :
    Calls Tryz.prog 52 #[.pointer (some ⟨d, 0, none⟩), .int .i64 (b : Int), .int .i64 (k : Int)] w fun er w' => er = .returned (.tuple #[.agg (cl ((X.blk b).pg.getD k [])), .int .i64 0]) ∧ Below w.heap.size w w' := by
  have k1 := dread_any h.dk h.u (b : Int) (k : Int)
  obtain ⟨e1, e2⟩ := h.pageE hb hk
  rw [e1, e2] at k1
  exact k1
theorem Disk1.all_lt (h : Disk1 w d t a X N f e K) : ∀ k, a.disk t d k → k < w.heap.size := h.dk.lt
end
end Go.Proofs.YtdiocjneakfdgaaGreatDoor

