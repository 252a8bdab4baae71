/- The law's call: both chips do the same. Condition: both stand for one plain state; few acts so far. -/
import Derived.Test.YtjdegfblacbkoaaNandDuo
import Derived.Test.YtjdegfblacbkoaaYields
namespace Go.Proofs.Ytjdegfblacbkoaa
open Go.RowKit
theorem and_15 (z : Int) : bits .and .i64 z 15 = z % 16 := by
  have := and_low z 4 15 rfl (by omega)
  rw [show ((15 : Nat) : Int) = 15 from rfl] at this
  rw [this]
  omega
theorem and_7 (z : Int) : bits .and .i64 z 7 = z % 8 := by
  have := and_low z 3 7 rfl (by omega)
  rw [show ((7 : Nat) : Int) = 7 from rfl] at this
  rw [this]
  omega
theorem ppow_flat (w : World) : (isAgg 26).run Try.prog w = .ok false w := by kernel_rfl
theorem cut_fits {s : NM.Pwr} (a k : Int) (h : -9223372036854775808 ≤ a ∧ a < 9223372036854775808) : (s.cut a k).fits := by
  unfold NM.Pwr.fits NM.Pwr.cut
  simp only
  split <;> omega
theorem on_fits (s : NM.Pwr) : s.on.fits := ⟨by show (-9223372036854775808 : Int) ≤ -1; omega, by show (-1 : Int) < 9223372036854775808; omega⟩
theorem PChip.own_c {w : World} {a : At} {S : Ch} (h : PChip w a S) : a.c < w.heap.size := h.own_lt _ (.inl rfl)
theorem RChip.own_cells' {w w' : World} {r : RAt} {S S' : Ch} {vp ve : Value} {cs : List Value} (h : RChip w r S) (hbs : S'.bs = S.bs) (hfp : S'.fp = S.fp) (hfe : S'.fe = S.fe) (hg : w.grownBy w' (some r.c)) (hB : Blk w r.c 53 (S.rcells r vp ve)) (hB' : Blk w' r.c 53 cs) (hcs : cs = S'.rcells r vp ve := by rfl) : RChip w' r S' := by
  subst hcs
  refine h.own_cells hbs hfp hfe hg (fun vp' ve' hB2 => ?_)
  have e := hB.symm.trans hB2
  have e' : (S.rcells r vp ve) = (S.rcells r vp' ve') := by
    have h1 := Option.some.inj e
    injection h1 with h1
    simpa using h1
  have e6 : vp = vp' := by
    have := congrArg (fun l : List Value => l.getD 6 undef) e'
    exact this
  have e7 : ve = ve' := by
    have := congrArg (fun l : List Value => l.getD 7 undef) e'
    exact this
  rw [← e6, ← e7]
  exact hB'
theorem Went.of {w w1 w2 : World} {a a' : At} {r r' : RAt} {S S' : Ch} {p q : Nat} {s' : NM.Pwr} (c : Chg w w1 (Both a r p q)) (hs : w.heap.size ≤ w1.heap.size) (h : Went w1 w2 a r a' r' S S' p q s') : Went w w2 a r a' r' S S' p q s' :=
  ⟨h.duo, h.pows, h.few, h.ac, h.rcc, fun j hj => (h.grow j hj).elim (fun e => .inl e) (fun e => .inr (Nat.le_trans hs e)), c.trans h.chg⟩
theorem u8_of_wf' {z : Int} (h : (Lit.int .u8 z).wf = true) : ∃ k : UInt8, z = ((k.toNat : Nat) : Int) := by
  simp only [Lit.wf, Bool.and_eq_true, IntKind.min, IntKind.max, IntKind.signed, IntKind.bits] at h
  simp at h
  refine ⟨UInt8.ofNat z.toNat, ?_⟩
  rw [UInt8.toNat_ofNat']
  omega
theorem slice_flat (w : World) : (isAgg 22).run Try.prog w = .ok false w := by kernel_rfl
set_option maxRecDepth 100000 in
set_option maxHeartbeats 8000000 in
theorem call_any (a : At) (r : RAt) (S : Ch) (s : NM.Pwr) (p q : Nat) (o : OpV) (B : Nat) (w : World) (h : Duo w a r S p q) (hs : Pows w p q s) (hfew : S.few 1000000) (hok : o.ok w B) (hBw : B ≤ w.heap.size) (hfr : ∀ j, Both a r p q j → B ≤ j) (hwl : o.wl.length ≤ 20) :
    Calls Try.prog 11 #[.pointer (some ⟨a.c, 0, none⟩), .pointer (some ⟨r.c, 0, none⟩), .agg o.row.toArray] w fun e w' => e = .returned (.bool true) ∧ ∃ a' r' S' s', Went w w' a r a' r' S S' p q s' := by
  obtain ⟨gv, hgve⟩ : ∃ gv, gv = w.heap.size := ⟨_, rfl⟩
  have R0' := Blk.new w 39 o.row
  have b0 : Below w.heap.size w (w.alloc (.cells o.row.toArray 39)) := (Below.refl _ _).alloc (Nat.le_refl _) _
  obtain ⟨xs, hxs⟩ : ∃ xs, xs = o.row.toArray := ⟨_, rfl⟩
  rw [← hxs] at R0' b0 ⊢
  clear hxs
  have hgs : w.heap.size ≤ (w.alloc (.cells xs 39)).heap.size := by rw [World.size_alloc]; omega
  have hgv : ¬ Both a r p q gv := by
    rw [hgve]
    rintro (e | e | e | e)
    · exact Nat.lt_irrefl _ (h.lt _ (.inl e))
    · exact Nat.lt_irrefl _ (h.lt _ (.inr e))
    · have := hs.lt.1; omega
    · have := hs.lt.2; omega
  have D0 := Lib.hid (h.after b0)
  have P0 := Lib.hid (hs.after b0)
  have C0 : Hid (Chg w (w.alloc (.cells xs 39)) (Both a r p q)) := Lib.hid (Chg.of_below b0)
  have HOK := Lib.hid hok
  have wn : -9223372036854775808 ≤ o.n ∧ o.n < 9223372036854775808 := by
    have h := hok.n
    simp only [Lit.wf, Bool.and_eq_true, IntKind.min, IntKind.max, IntKind.signed, IntKind.bits] at h
    simp at h
    omega
  have WN := Lib.hid wn
  have hb0 := Lib.hid b0
  rw [← hgve] at R0'
  obtain ⟨km, hkm, hk16⟩ : ∃ km : Nat, bits .and .i64 o.k 15 = (km : Int) ∧ km < 16 := ⟨(o.k % 16).toNat, by rw [and_15]; omega, by omega⟩
  have hcs : (Value.agg xs).cells = xs := rfl
  clear h hs b0 hok wn
  have wn := WN.out
  have c0 : (w.alloc (.cells xs 39)).cell? ⟨w.heap.size, 0, none⟩ = some (.int .i64 o.k) := by rw [hgve] at R0'; exact R0'.cell 0
  have c4 : (w.alloc (.cells xs 39)).cell? ⟨w.heap.size, 4, none⟩ = some (.int .i64 o.n) := by rw [hgve] at R0'; exact R0'.cell 4
  have a0 := D0.out.pc.cell.1
  rw [D0.out.p_] at a0
  by_cases hk0 : km = 0
  · subst hk0
    replace hkm : bits .and .i64 o.k 15 = 0 := hkm
    go_enter Try.func11, Try.ntmps11
    go_wp2_with fail
    rw [show w.heap.size = gv from hgve.symm]
    obtain ⟨W0, hW0⟩ : ∃ W0, W0 = w.alloc (.cells xs 39) := ⟨_, rfl⟩
    rw [← hW0] at D0 P0 C0 R0' hgs hb0 ⊢
    have R0 := R0'
    clear hW0 c0 c4 a0 hgve
    have R1 := R0.drew
    have D1 := Lib.hid (D0.out.after (Below.refl _ _).drew)
    have P1 := Lib.hid (P0.out.after (Below.refl _ _).drew)
    have C1 := Lib.hid (C0.out.trans (Chg.of_below (Below.refl _ _).drew))
    refine wp_region_held_drew (S := fun w' => Blk w' gv 39 o.row) (by kernel_rfl) R1 (fun _ => ?_)
    refine wpAnyH_take (i := 0) (v := .pointer (some ⟨a.c, 0, none⟩)) rfl (by kernel_rfl) (by kernel_rfl) (by kernel_rfl) (fun _ _ _ h => h) (Or.inl ⟨by kernel_rfl, fun w _ => by go_simp⟩) R1 ?_
    refine wpAnyH_take (i := 1) (v := .pointer (some ⟨gv, 2, none⟩)) rfl (by kernel_rfl) (by kernel_rfl) (by kernel_rfl) (fun _ _ _ h => h) (Or.inl ⟨by kernel_rfl, fun w _ => by go_simp⟩) R1 ?_
    refine wpAnyH_take (i := 2) (v := .int .i64 o.b) rfl (by kernel_rfl) (by kernel_rfl) (by kernel_rfl) (fun _ _ _ h => h) (yields_one (p := ⟨gv, 2, none⟩) int_flat (.tmp 33) (by kernel_rfl) (by kernel_rfl) (by kernel_rfl) (fun _ h => h.cell 2)) R1 ?_
    refine wpAnyH_take (i := 4) (v := .pointer (some ⟨r.c, 0, none⟩)) rfl (by kernel_rfl) (by kernel_rfl) (by kernel_rfl) (fun _ _ _ h => h) (Or.inl ⟨by kernel_rfl, fun w _ => by go_simp⟩) R1 ?_
    refine wpAnyH_take (i := 5) (v := .pointer (some ⟨gv, 2, none⟩)) rfl (by kernel_rfl) (by kernel_rfl) (by kernel_rfl) (fun _ _ _ h => h) (Or.inl ⟨by kernel_rfl, fun w _ => by go_simp⟩) R1 ?_
    refine wpAnyH_take (i := 6) (v := .int .i64 o.b) rfl (by kernel_rfl) (by kernel_rfl) (by kernel_rfl) (fun _ _ _ h => h) (yields_one (p := ⟨gv, 2, none⟩) int_flat (.tmp 37) (by kernel_rfl) (by kernel_rfl) (by kernel_rfl) (fun _ h => h.cell 2)) R1 ?_
    have k1 := erase_any a S s o.b P1.out.fits hfew _ D1.out.pc (D1.out.ppc P1.out.pp)
    refine wpAnyH_ready (rs := [3]) (by kernel_rfl) (by simp) (AllReadyH.cons rfl (fun K hK => ?_) AllReadyH.nil)
    go_simp
    ((with_reducible refine k1.mono ?_); rintro e w2 ⟨rfl, A2, P2, q2⟩)
    have R2 := R1.chg q2 (fun e => hgv (e.elim (fun e => .inl e) (fun e => .inr (.inr (.inl (e.trans D1.out.p_))))))
    refine hK.out _ _ R2 (fun _ => ?_)
    clear hK K k1
    obtain ⟨rc2, rp2⟩ := D1.out.mid P1.out q2
    have k2 := refErase_any r S s o.b P1.out.fits hfew _ rc2 rp2
    refine wpAnyH_ready (rs := [7]) (by kernel_rfl) (by simp) (AllReadyH.cons rfl (fun K hK => ?_) AllReadyH.nil)
    go_simp
    ((with_reducible refine k2.mono ?_); rintro e w3 ⟨rfl, A3, P3, q3⟩)
    have R3 := R2.chg q3 (fun e => hgv (e.elim (fun e => .inr (.inl e)) (fun e => .inr (.inr (.inr (e.trans D1.out.q_))))))
    refine hK.out _ _ R3 (fun _ => ?_)
    clear hK K k2
    refine wpAnyH_take (i := 8) (v := .bool true) rfl (by kernel_rfl) (by kernel_rfl) (by kernel_rfl) (fun _ _ _ h => h) (Or.inl ⟨by kernel_rfl, fun w _ => by go_simp⟩) R3 ?_
    refine wpAnyH_ready (rs := [9]) (by kernel_rfl) (by simp) (AllReadyH.cons rfl (fun K hK => ?_) AllReadyH.nil)
    go_simp
    refine hK.out _ _ R3 (fun _ => ?_)
    clear hK K
    refine wpAnyH_done (by kernel_rfl) ?_ _
    go_wp2_with fail
    go_ret
    exact ⟨rfl, _, _, _, _, Went.of C1.out hgs (D1.out.went P1.out q2 A2 P2 q3 A3 P3 (erase_fits o.b P1.out.fits) (few_erase o.b s))⟩
  by_cases hk1 : km = 1
  · subst hk1
    replace hkm : bits .and .i64 o.k 15 = 1 := hkm
    go_enter Try.func11, Try.ntmps11
    go_wp2_with fail
    rw [show w.heap.size = gv from hgve.symm]
    obtain ⟨W0, hW0⟩ : ∃ W0, W0 = w.alloc (.cells xs 39) := ⟨_, rfl⟩
    rw [← hW0] at D0 P0 C0 R0' hgs hb0 ⊢
    have R0 := R0'
    clear hW0 c0 c4 a0 hgve
    have R1 := R0.drew
    have D1 := Lib.hid (D0.out.after (Below.refl _ _).drew)
    have P1 := Lib.hid (P0.out.after (Below.refl _ _).drew)
    have C1 := Lib.hid (C0.out.trans (Chg.of_below (Below.refl _ _).drew))
    refine wp_region_held_drew (S := fun w' => Blk w' gv 39 o.row) (by kernel_rfl) R1 (fun _ => ?_)
    refine wpAnyH_take (i := 0) (v := .pointer (some ⟨a.c, 0, none⟩)) rfl (by kernel_rfl) (by kernel_rfl) (by kernel_rfl) (fun _ _ _ h => h) (Or.inl ⟨by kernel_rfl, fun w _ => by go_simp⟩) R1 ?_
    refine wpAnyH_take (i := 1) (v := .pointer (some ⟨gv, 2, none⟩)) rfl (by kernel_rfl) (by kernel_rfl) (by kernel_rfl) (fun _ _ _ h => h) (Or.inl ⟨by kernel_rfl, fun w _ => by go_simp⟩) R1 ?_
    refine wpAnyH_take (i := 2) (v := .int .i64 o.b) rfl (by kernel_rfl) (by kernel_rfl) (by kernel_rfl) (fun _ _ _ h => h) (yields_one (p := ⟨gv, 2, none⟩) int_flat (.tmp 33) (by kernel_rfl) (by kernel_rfl) (by kernel_rfl) (fun _ h => h.cell 2)) R1 ?_
    refine wpAnyH_take (i := 4) (v := .pointer (some ⟨r.c, 0, none⟩)) rfl (by kernel_rfl) (by kernel_rfl) (by kernel_rfl) (fun _ _ _ h => h) (Or.inl ⟨by kernel_rfl, fun w _ => by go_simp⟩) R1 ?_
    refine wpAnyH_take (i := 5) (v := .pointer (some ⟨gv, 2, none⟩)) rfl (by kernel_rfl) (by kernel_rfl) (by kernel_rfl) (fun _ _ _ h => h) (Or.inl ⟨by kernel_rfl, fun w _ => by go_simp⟩) R1 ?_
    refine wpAnyH_take (i := 6) (v := .int .i64 o.b) rfl (by kernel_rfl) (by kernel_rfl) (by kernel_rfl) (fun _ _ _ h => h) (yields_one (p := ⟨gv, 2, none⟩) int_flat (.tmp 37) (by kernel_rfl) (by kernel_rfl) (by kernel_rfl) (fun _ h => h.cell 2)) R1 ?_
    have k1 := erase_any a S s o.b P1.out.fits hfew _ D1.out.pc (D1.out.ppc P1.out.pp)
    refine wpAnyH_ready (rs := [3]) (by kernel_rfl) (by simp) (AllReadyH.cons rfl (fun K hK => ?_) AllReadyH.nil)
    go_simp
    ((with_reducible refine k1.mono ?_); rintro e w2 ⟨rfl, A2, P2, q2⟩)
    have R2 := R1.chg q2 (fun e => hgv (e.elim (fun e => .inl e) (fun e => .inr (.inr (.inl (e.trans D1.out.p_))))))
    refine hK.out _ _ R2 (fun _ => ?_)
    clear hK K k1
    obtain ⟨rc2, rp2⟩ := D1.out.mid P1.out q2
    have k2 := refErase_any r S s o.b P1.out.fits hfew _ rc2 rp2
    refine wpAnyH_ready (rs := [7]) (by kernel_rfl) (by simp) (AllReadyH.cons rfl (fun K hK => ?_) AllReadyH.nil)
    go_simp
    ((with_reducible refine k2.mono ?_); rintro e w3 ⟨rfl, A3, P3, q3⟩)
    have R3 := R2.chg q3 (fun e => hgv (e.elim (fun e => .inr (.inl e)) (fun e => .inr (.inr (.inr (e.trans D1.out.q_))))))
    refine hK.out _ _ R3 (fun _ => ?_)
    clear hK K k2
    refine wpAnyH_take (i := 8) (v := .bool true) rfl (by kernel_rfl) (by kernel_rfl) (by kernel_rfl) (fun _ _ _ h => h) (Or.inl ⟨by kernel_rfl, fun w _ => by go_simp⟩) R3 ?_
    refine wpAnyH_ready (rs := [9]) (by kernel_rfl) (by simp) (AllReadyH.cons rfl (fun K hK => ?_) AllReadyH.nil)
    go_simp
    refine hK.out _ _ R3 (fun _ => ?_)
    clear hK K
    refine wpAnyH_done (by kernel_rfl) ?_ _
    go_wp2_with fail
    go_ret
    exact ⟨rfl, _, _, _, _, Went.of C1.out hgs (D1.out.went P1.out q2 A2 P2 q3 A3 P3 (erase_fits o.b P1.out.fits) (few_erase o.b s))⟩
  by_cases hk2 : km = 2
  · subst hk2
    replace hkm : bits .and .i64 o.k 15 = 2 := hkm
    go_enter Try.func11, Try.ntmps11
    go_wp2_with fail
    rw [show w.heap.size = gv from hgve.symm]
    obtain ⟨W0, hW0⟩ : ∃ W0, W0 = w.alloc (.cells xs 39) := ⟨_, rfl⟩
    rw [← hW0] at D0 P0 C0 R0' hgs hb0 ⊢
    have R0 := R0'
    clear hW0 c0 c4 a0 hgve
    have R1 := R0.drew
    have D1 := Lib.hid (D0.out.after (Below.refl _ _).drew)
    have P1 := Lib.hid (P0.out.after (Below.refl _ _).drew)
    have C1 := Lib.hid (C0.out.trans (Chg.of_below (Below.refl _ _).drew))
    have a0 := D1.out.pc.cell.1
    rw [D1.out.p_] at a0
    refine wp_region_held_drew (S := fun w' => Blk w' gv 39 o.row ∧ w'.cell? ⟨a.c, 0, none⟩ = some (.pointer (some ⟨p, 0, none⟩))) (by kernel_rfl) ⟨R1, a0⟩ (fun _ => ?_)
    refine wpAnyH_take (i := 0) (v := .pointer (some ⟨a.c, 0, none⟩)) rfl (by kernel_rfl) (by kernel_rfl) (by kernel_rfl) (fun _ _ _ h => h) (Or.inl ⟨by kernel_rfl, fun w _ => by go_simp⟩) ⟨R1, a0⟩ ?_
    refine wpAnyH_take (i := 1) (v := .pointer (some ⟨a.c, 0, none⟩)) rfl (by kernel_rfl) (by kernel_rfl) (by kernel_rfl) (fun _ _ _ h => h) (Or.inl ⟨by kernel_rfl, fun w _ => by go_simp⟩) ⟨R1, a0⟩ ?_
    refine wpAnyH_take (i := 2) (v := .pointer (some ⟨a.c, 0, none⟩)) rfl (by kernel_rfl) (by kernel_rfl) (by kernel_rfl) (fun _ _ _ h => h) (Or.inl ⟨by kernel_rfl, fun w _ => by go_simp⟩) ⟨R1, a0⟩ ?_
    refine wpAnyH_take (i := 3) (v := .pointer (some ⟨p, 0, none⟩)) rfl (by kernel_rfl) (by kernel_rfl) (by kernel_rfl) (fun _ _ _ h => h) (yields_one (p := ⟨a.c, 0, none⟩) ppow_flat (.tmp 45) (by kernel_rfl) (by kernel_rfl) (by kernel_rfl) (fun _ h => h.2)) ⟨R1, a0⟩ ?_
    refine wpAnyH_take (i := 4) (v := .pointer (some ⟨gv, 4, none⟩)) rfl (by kernel_rfl) (by kernel_rfl) (by kernel_rfl) (fun _ _ _ h => h) (Or.inl ⟨by kernel_rfl, fun w _ => by go_simp⟩) ⟨R1, a0⟩ ?_
    refine wpAnyH_take (i := 5) (v := .int .i64 o.n) rfl (by kernel_rfl) (by kernel_rfl) (by kernel_rfl) (fun _ _ _ h => h) (yields_one (p := ⟨gv, 4, none⟩) int_flat (.tmp 47) (by kernel_rfl) (by kernel_rfl) (by kernel_rfl) (fun _ h => h.1.cell 4)) ⟨R1, a0⟩ ?_
    refine wpAnyH_take (i := 6) (v := .pointer (some ⟨gv, 5, none⟩)) rfl (by kernel_rfl) (by kernel_rfl) (by kernel_rfl) (fun _ _ _ h => h) (Or.inl ⟨by kernel_rfl, fun w _ => by go_simp⟩) ⟨R1, a0⟩ ?_
    refine wpAnyH_take (i := 7) (v := .int .i64 o.kp) rfl (by kernel_rfl) (by kernel_rfl) (by kernel_rfl) (fun _ _ _ h => h) (yields_one (p := ⟨gv, 5, none⟩) int_flat (.tmp 49) (by kernel_rfl) (by kernel_rfl) (by kernel_rfl) (fun _ h => h.1.cell 5)) ⟨R1, a0⟩ ?_
    have k1 := cut_any p s o.n o.kp _ P1.out.pp
    refine wpAnyH_ready (rs := [8]) (by kernel_rfl) (by simp) (AllReadyH.cons rfl (fun K hK => ?_) AllReadyH.nil)
    go_simp
    ((with_reducible refine k1.mono ?_); rintro e w2 ⟨rfl, P2, g2⟩)
    have q2 : Chg _ w2 (fun j => j = p) := Chg.of_grown g2 (fun k e => Option.some.inj e)
    have R2 := R1.chg q2 (fun e => hgv (.inr (.inr (.inl e))))
    have a2 := (World.cell?_of_block (a := ⟨a.c, 0, none⟩) (q2.block _ D1.out.pc.own_c (fun e => (D1.out.np a.c (.inl (.inl rfl))).1 e))).trans a0
    refine hK.out _ _ ⟨R2, a2⟩ (fun _ => ?_)
    clear hK K k1
    refine wpAnyH_done (by kernel_rfl) ?_ _
    go_wp2_with fail
    have R3 := R2.drew
    have rq : RPow w2.drew q s := P1.out.rp.chg (q2.trans (Chg.of_below (Below.refl _ _).drew)) (fun e => P1.out.ne e.symm)
    have r0 : w2.drew.cell? ⟨r.c, 0, none⟩ = some (.pointer (some ⟨q, 0, none⟩)) := by
      have h := (D1.out.chg (T := fun j => j = p) (q2.trans (Chg.of_below (Below.refl _ _).drew)) (fun j hj e => (D1.out.np j hj).1 e)).rc.rcell.1
      rw [D1.out.q_] at h
      exact h
    refine wp_region_held_drew (S := fun w' => Blk w' gv 39 o.row ∧ w'.cell? ⟨r.c, 0, none⟩ = some (.pointer (some ⟨q, 0, none⟩))) (by kernel_rfl) ⟨R3, r0⟩ (fun _ => ?_)
    refine wpAnyH_take (i := 0) (v := .pointer (some ⟨r.c, 0, none⟩)) rfl (by kernel_rfl) (by kernel_rfl) (by kernel_rfl) (fun _ _ _ h => h) (Or.inl ⟨by kernel_rfl, fun w _ => by go_simp⟩) ⟨R3, r0⟩ ?_
    refine wpAnyH_take (i := 1) (v := .pointer (some ⟨r.c, 0, none⟩)) rfl (by kernel_rfl) (by kernel_rfl) (by kernel_rfl) (fun _ _ _ h => h) (Or.inl ⟨by kernel_rfl, fun w _ => by go_simp⟩) ⟨R3, r0⟩ ?_
    refine wpAnyH_take (i := 2) (v := .pointer (some ⟨r.c, 0, none⟩)) rfl (by kernel_rfl) (by kernel_rfl) (by kernel_rfl) (fun _ _ _ h => h) (Or.inl ⟨by kernel_rfl, fun w _ => by go_simp⟩) ⟨R3, r0⟩ ?_
    refine wpAnyH_take (i := 3) (v := .pointer (some ⟨q, 0, none⟩)) rfl (by kernel_rfl) (by kernel_rfl) (by kernel_rfl) (fun _ _ _ h => h) (yields_one (p := ⟨r.c, 0, none⟩) rpow_flat (.tmp 54) (by kernel_rfl) (by kernel_rfl) (by kernel_rfl) (fun _ h => h.2)) ⟨R3, r0⟩ ?_
    refine wpAnyH_take (i := 4) (v := .pointer (some ⟨gv, 4, none⟩)) rfl (by kernel_rfl) (by kernel_rfl) (by kernel_rfl) (fun _ _ _ h => h) (Or.inl ⟨by kernel_rfl, fun w _ => by go_simp⟩) ⟨R3, r0⟩ ?_
    refine wpAnyH_take (i := 5) (v := .int .i64 o.n) rfl (by kernel_rfl) (by kernel_rfl) (by kernel_rfl) (fun _ _ _ h => h) (yields_one (p := ⟨gv, 4, none⟩) int_flat (.tmp 56) (by kernel_rfl) (by kernel_rfl) (by kernel_rfl) (fun _ h => h.1.cell 4)) ⟨R3, r0⟩ ?_
    refine wpAnyH_take (i := 6) (v := .pointer (some ⟨gv, 5, none⟩)) rfl (by kernel_rfl) (by kernel_rfl) (by kernel_rfl) (fun _ _ _ h => h) (Or.inl ⟨by kernel_rfl, fun w _ => by go_simp⟩) ⟨R3, r0⟩ ?_
    refine wpAnyH_take (i := 7) (v := .int .i64 o.kp) rfl (by kernel_rfl) (by kernel_rfl) (by kernel_rfl) (fun _ _ _ h => h) (yields_one (p := ⟨gv, 5, none⟩) int_flat (.tmp 58) (by kernel_rfl) (by kernel_rfl) (by kernel_rfl) (fun _ h => h.1.cell 5)) ⟨R3, r0⟩ ?_
    have k2 := refCut_any q s o.n o.kp _ rq
    refine wpAnyH_ready (rs := [8]) (by kernel_rfl) (by simp) (AllReadyH.cons rfl (fun K hK => ?_) AllReadyH.nil)
    go_simp
    ((with_reducible refine k2.mono ?_); rintro e w3 ⟨rfl, P3, g3⟩)
    have q3 : Chg _ w3 (fun j => j = q) := Chg.of_grown g3 (fun k e => Option.some.inj e)
    have R4 := R3.chg q3 (fun e => hgv (.inr (.inr (.inr e))))
    have r4 := (World.cell?_of_block (a := ⟨r.c, 0, none⟩) (q3.block _ (World.block_lt_of_cell? _ _ r0) (fun e => (D1.out.np r.c (.inr (.inl rfl))).2 e))).trans r0
    refine hK.out _ _ ⟨R4, r4⟩ (fun _ => ?_)
    clear hK K k2
    refine wpAnyH_done (by kernel_rfl) ?_ _
    go_wp2_with fail
    go_ret
    have hne := P1.out.ne
    exact ⟨rfl, _, _, _, _, Went.of C1.out hgs (D1.out.wentP ((q2.more (fun _ _ e => .inl e)).trans ((Chg.of_below (Below.refl _ _).drew).trans (q3.more (fun _ _ e => .inr e)))) ⟨P2.chg ((Chg.of_below (S := fun j => j = q) (Below.refl _ _).drew).trans q3) (fun e => hne e), P3, hne, cut_fits o.n o.kp wn⟩)⟩
  by_cases hk3 : km = 3
  · subst hk3
    replace hkm : bits .and .i64 o.k 15 = 3 := hkm
    go_enter Try.func11, Try.ntmps11
    go_wp2_with fail
    rw [show w.heap.size = gv from hgve.symm]
    obtain ⟨W0, hW0⟩ : ∃ W0, W0 = w.alloc (.cells xs 39) := ⟨_, rfl⟩
    rw [← hW0] at D0 P0 C0 R0' hgs hb0 ⊢
    have R0 := R0'
    clear hW0 c0 c4 a0 hgve
    have k1 := on_any p s _ P0.out.pp
    ((with_reducible refine k1.mono ?_); rintro e w2 ⟨rfl, P2, g2⟩)
    have q2 : Chg W0 w2 (fun j => j = p) := Chg.of_grown g2 (fun k e => Option.some.inj e)
    have rq : RPow w2 q s := P0.out.rp.chg q2 (fun e => P0.out.ne e.symm)
    have r0 : w2.cell? ⟨r.c, 0, none⟩ = some (.pointer (some ⟨q, 0, none⟩)) := by
      have h := (D0.out.chg q2 (fun j hj e => (D0.out.np j hj).1 e)).rc.rcell.1
      rw [D0.out.q_] at h
      exact h
    have k2 := refOn_any q s _ rq
    have HP2 := Lib.hid P2
    clear k1 g2 P2
    go_wp2_with fail
    ((with_reducible refine k2.mono ?_); rintro e w3 ⟨rfl, P3, g3⟩)
    have q3 : Chg w2 w3 (fun j => j = q) := Chg.of_grown g3 (fun k e => Option.some.inj e)
    go_wp2_with fail
    go_ret
    have hne := P0.out.ne
    exact ⟨rfl, _, _, _, _, Went.of C0.out hgs (D0.out.wentP ((q2.more (fun _ _ e => .inl e)).trans (q3.more (fun _ _ e => .inr e))) ⟨HP2.out.chg q3 (fun e => hne e), P3, hne, on_fits s⟩)⟩
  by_cases hk4 : km = 4
  · subst hk4
    replace hkm : bits .and .i64 o.k 15 = 4 := hkm
    have ha1 := and_1 o.n
    rcases (by omega : o.n % 2 = 0 ∨ o.n % 2 = 1) with hp | hp
    · rw [hp] at ha1
      clear hp
      go_enter Try.func11, Try.ntmps11
      go_wp2_with fail
      rw [show w.heap.size = gv from hgve.symm]
      obtain ⟨W0, hW0⟩ : ∃ W0, W0 = w.alloc (.cells xs 39) := ⟨_, rfl⟩
      rw [← hW0] at D0 P0 C0 R0' hgs hb0 ⊢
      have R0 := R0'
      clear hW0 c0 c4 a0 hgve
      have R1 := R0.drew
      have D1 := Lib.hid (D0.out.after (Below.refl _ _).drew)
      have P1 := Lib.hid (P0.out.after (Below.refl _ _).drew)
      have C1 := Lib.hid (C0.out.trans (Chg.of_below (Below.refl _ _).drew))
      refine wp_region_held_drew (S := fun w' => Blk w' gv 39 o.row) (by kernel_rfl) R1 (fun _ => ?_)
      refine wpAnyH_take (i := 0) (v := .pointer (some ⟨a.c, 0, none⟩)) rfl (by kernel_rfl) (by kernel_rfl) (by kernel_rfl) (fun _ _ _ h => h) (Or.inl ⟨by kernel_rfl, fun w _ => by go_simp⟩) R1 ?_
      refine wpAnyH_take (i := 1) (v := .pointer (some ⟨gv, 4, none⟩)) rfl (by kernel_rfl) (by kernel_rfl) (by kernel_rfl) (fun _ _ _ h => h) (Or.inl ⟨by kernel_rfl, fun w _ => by go_simp⟩) R1 ?_
      refine wpAnyH_take (i := 2) (v := .int .i64 o.n) rfl (by kernel_rfl) (by kernel_rfl) (by kernel_rfl) (fun _ _ _ h => h) (yields_one (p := ⟨gv, 4, none⟩) int_flat (.tmp 76) (by kernel_rfl) (by kernel_rfl) (by kernel_rfl) (fun _ h => h.cell 4)) R1 ?_
      refine wpAnyH_take (i := 3) (v := .int .i64 0) rfl (by kernel_rfl) (by kernel_rfl) (by kernel_rfl) (fun _ _ _ h => h) (Or.inl ⟨by kernel_rfl, fun w _ => by go_simp⟩) R1 ?_
      refine wpAnyH_take (i := 4) (v := .bool true) rfl (by kernel_rfl) (by kernel_rfl) (by kernel_rfl) (fun _ _ _ h => h) (Or.inl ⟨by kernel_rfl, fun w _ => by go_simp⟩) R1 ?_
      refine wpAnyH_take (i := 6) (v := .pointer (some ⟨gv, 7, none⟩)) rfl (by kernel_rfl) (by kernel_rfl) (by kernel_rfl) (fun _ _ _ h => h) (Or.inl ⟨by kernel_rfl, fun w _ => by go_simp⟩) R1 ?_
      refine wpAnyH_take (i := 7) (v := o.wh) rfl (by kernel_rfl) (by kernel_rfl) (by kernel_rfl) (fun _ _ _ h => h) (yields_one (p := ⟨gv, 7, none⟩) slice_flat (.tmp 81) (by kernel_rfl) (by kernel_rfl) (by kernel_rfl) (fun _ h => h.cell 7)) R1 ?_
      refine wpAnyH_ready (rs := [5]) (by kernel_rfl) (by simp) (AllReadyH.cons rfl (fun K hK => ?_) AllReadyH.nil)
      go_simp
      have R2 := R1.alloc (.cells #[] 3)
      have bl2 : Below W0.drew.heap.size W0.drew (W0.drew.alloc (.cells #[] 3)) := (Below.refl _ _).alloc (Nat.le_refl _) _
      have O2 : (W0.drew.alloc (.cells #[] 3)).ownsRow W0.drew.heap.size 3 1 (.slice (some ⟨W0.drew.heap.size, 0, none⟩) 0 0) 0 [] := World.ownsRow_made (size := 1) W0.drew #[] 0 (Nat.le_refl _) (by simp [maxLen]) (by simp)
      refine hK.out _ _ R2 (fun _ => ?_)
      clear hK K
      obtain ⟨A1, c1, e1, l1, l2, hrow, hwf⟩ := HOK.out.wh
      have hBg : B ≤ W0.heap.size := Nat.le_trans hBw hgs
      have hrow2 := hrow.below ((hb0.out.mono hBw).trans (((Below.refl B W0).drew).trans (bl2.mono hBg)))
      have HRW := Lib.hid hrow2
      refine wpAnyH_ready (rs := [8]) (by kernel_rfl) (by simp) (AllReadyH.cons rfl (fun K hK => ?_) AllReadyH.nil)
      refine step_append (xs := []) intTys (by rfl) (.tmp 80) (.tmp 82) rfl 0 rfl O2 _ A1 c1 (o.wl.map (Value.int .i64)) o.wl.length (by simp) e1 hrow2 (fun u hu => by obtain ⟨z, _, rfl⟩ := List.mem_map.1 hu; rfl) (by omega) (by simp only [maxLen]; omega) (by show W0.heap.size ≤ (W0.alloc (.cells #[] 3)).heap.size; rw [World.size_alloc]; omega) o.wl.length (by omega) ?_
      intro A8 c8 w8 O8 g8
      have b8 : Below W0.drew.heap.size W0.drew w8 := bl2.grown g8 (by show W0.heap.size ≤ (W0.alloc (.cells #[] 3)).heap.size; rw [World.size_alloc]; omega) (fun k e => by cases e; exact Nat.le_refl _)
      have R8 := R1.after b8
      have D8 := Lib.hid (D1.out.after b8)
      have P8 := Lib.hid (P1.out.after b8)
      have C8 := Lib.hid (C1.out.trans (Chg.of_below b8))
      have HB8 : Hid (Below B w w8) := Lib.hid (((hb0.out.mono hBw).trans ((Below.refl B W0).drew)).trans (b8.mono hBg))
      have hs8 : W0.heap.size ≤ w8.heap.size := b8.size
      refine hK.out _ _ R8 (fun _ => ?_)
      clear hK K bl2 O2 R2 hrow2 g8 b8
      rw [List.nil_append] at O8
      obtain ⟨x8, N8, _⟩ := own_rnums rfl O8 hwf
      have k1 := fail_any a S true o.wl _ (by omega) w8 (by rw [D8.out.p_]; exact P8.out.lt.1) D8.out.pc N8.nums
      clear O8
      refine wpAnyH_ready (rs := [9]) (by kernel_rfl) (by simp) (AllReadyH.cons rfl (fun K hK => ?_) AllReadyH.nil)
      go_simp
      ((with_reducible refine k1.mono ?_); rintro e w9 ⟨bm, rfl, hbm, A9, q9⟩)
      have R9 := R8.chg q9 (fun e => hgv (.inl (.inl e)))
      refine hK.out _ _ R9 (fun _ => ?_)
      clear hK K k1 N8
      refine wpAnyH_done (by kernel_rfl) ?_ _
      have rc9 : RChip w9 r S := D8.out.rc.chg q9 (fun k hk e => D8.out.ap a.c (.inl rfl) (e ▸ hk))
      have c49 : w9.cell? ⟨gv, 4, none⟩ = some (.int .i64 o.n) := R9.cell 4
      have c79 : w9.cell? ⟨gv, 7, none⟩ = some (.slice A1 o.wl.length c1) := (R9.cell 7).trans (congrArg some e1)
      have N9 : Nums w9 w9.heap.size .i64 (.slice A1 o.wl.length c1) o.wl := ⟨A1, c1, rfl, l1, l2, (hrow.below (HB8.out.trans (q9.below (fun k e => by rw [e]; exact hfr _ (.inl (.inl rfl))) (Nat.le_trans hBg hs8)))).more (Nat.le_trans (Nat.le_trans hBg hs8) q9.size), hwf⟩
      have k2 := refFail_any r S true o.wl _ (by omega) w9 rc9 (by rw [D8.out.q_]; exact Nat.lt_of_lt_of_le P8.out.lt.2 q9.size) N9
      clear N9 HRW
      go_wp2_with fail
      ((with_reducible refine k2.mono ?_); rintro e wa ⟨rfl, x, hx, Ra, qa⟩)
      go_wp2_with fail
      go_ret
      exact ⟨rfl, _, _, _, _, Went.of C8.out (Nat.le_trans hgs hs8) (D8.out.wentF P8.out q9 A9 hbm qa Ra hx)⟩
    · rw [hp] at ha1
      clear hp
      go_enter Try.func11, Try.ntmps11
      go_wp2_with fail
      rw [show w.heap.size = gv from hgve.symm]
      obtain ⟨W0, hW0⟩ : ∃ W0, W0 = w.alloc (.cells xs 39) := ⟨_, rfl⟩
      rw [← hW0] at D0 P0 C0 R0' hgs hb0 ⊢
      have R0 := R0'
      clear hW0 c0 c4 a0 hgve
      have R1 := R0.drew
      have D1 := Lib.hid (D0.out.after (Below.refl _ _).drew)
      have P1 := Lib.hid (P0.out.after (Below.refl _ _).drew)
      have C1 := Lib.hid (C0.out.trans (Chg.of_below (Below.refl _ _).drew))
      refine wp_region_held_drew (S := fun w' => Blk w' gv 39 o.row) (by kernel_rfl) R1 (fun _ => ?_)
      refine wpAnyH_take (i := 0) (v := .pointer (some ⟨a.c, 0, none⟩)) rfl (by kernel_rfl) (by kernel_rfl) (by kernel_rfl) (fun _ _ _ h => h) (Or.inl ⟨by kernel_rfl, fun w _ => by go_simp⟩) R1 ?_
      refine wpAnyH_take (i := 1) (v := .pointer (some ⟨gv, 4, none⟩)) rfl (by kernel_rfl) (by kernel_rfl) (by kernel_rfl) (fun _ _ _ h => h) (Or.inl ⟨by kernel_rfl, fun w _ => by go_simp⟩) R1 ?_
      refine wpAnyH_take (i := 2) (v := .int .i64 o.n) rfl (by kernel_rfl) (by kernel_rfl) (by kernel_rfl) (fun _ _ _ h => h) (yields_one (p := ⟨gv, 4, none⟩) int_flat (.tmp 76) (by kernel_rfl) (by kernel_rfl) (by kernel_rfl) (fun _ h => h.cell 4)) R1 ?_
      refine wpAnyH_take (i := 3) (v := .int .i64 1) rfl (by kernel_rfl) (by kernel_rfl) (by kernel_rfl) (fun _ _ _ h => h) (Or.inl ⟨by kernel_rfl, fun w _ => by go_simp⟩) R1 ?_
      refine wpAnyH_take (i := 4) (v := .bool false) rfl (by kernel_rfl) (by kernel_rfl) (by kernel_rfl) (fun _ _ _ h => h) (Or.inl ⟨by kernel_rfl, fun w _ => by go_simp⟩) R1 ?_
      refine wpAnyH_take (i := 6) (v := .pointer (some ⟨gv, 7, none⟩)) rfl (by kernel_rfl) (by kernel_rfl) (by kernel_rfl) (fun _ _ _ h => h) (Or.inl ⟨by kernel_rfl, fun w _ => by go_simp⟩) R1 ?_
      refine wpAnyH_take (i := 7) (v := o.wh) rfl (by kernel_rfl) (by kernel_rfl) (by kernel_rfl) (fun _ _ _ h => h) (yields_one (p := ⟨gv, 7, none⟩) slice_flat (.tmp 81) (by kernel_rfl) (by kernel_rfl) (by kernel_rfl) (fun _ h => h.cell 7)) R1 ?_
      refine wpAnyH_ready (rs := [5]) (by kernel_rfl) (by simp) (AllReadyH.cons rfl (fun K hK => ?_) AllReadyH.nil)
      go_simp
      have R2 := R1.alloc (.cells #[] 3)
      have bl2 : Below W0.drew.heap.size W0.drew (W0.drew.alloc (.cells #[] 3)) := (Below.refl _ _).alloc (Nat.le_refl _) _
      have O2 : (W0.drew.alloc (.cells #[] 3)).ownsRow W0.drew.heap.size 3 1 (.slice (some ⟨W0.drew.heap.size, 0, none⟩) 0 0) 0 [] := World.ownsRow_made (size := 1) W0.drew #[] 0 (Nat.le_refl _) (by simp [maxLen]) (by simp)
      refine hK.out _ _ R2 (fun _ => ?_)
      clear hK K
      obtain ⟨A1, c1, e1, l1, l2, hrow, hwf⟩ := HOK.out.wh
      have hBg : B ≤ W0.heap.size := Nat.le_trans hBw hgs
      have hrow2 := hrow.below ((hb0.out.mono hBw).trans (((Below.refl B W0).drew).trans (bl2.mono hBg)))
      have HRW := Lib.hid hrow2
      refine wpAnyH_ready (rs := [8]) (by kernel_rfl) (by simp) (AllReadyH.cons rfl (fun K hK => ?_) AllReadyH.nil)
      refine step_append (xs := []) intTys (by rfl) (.tmp 80) (.tmp 82) rfl 0 rfl O2 _ A1 c1 (o.wl.map (Value.int .i64)) o.wl.length (by simp) e1 hrow2 (fun u hu => by obtain ⟨z, _, rfl⟩ := List.mem_map.1 hu; rfl) (by omega) (by simp only [maxLen]; omega) (by show W0.heap.size ≤ (W0.alloc (.cells #[] 3)).heap.size; rw [World.size_alloc]; omega) o.wl.length (by omega) ?_
      intro A8 c8 w8 O8 g8
      have b8 : Below W0.drew.heap.size W0.drew w8 := bl2.grown g8 (by show W0.heap.size ≤ (W0.alloc (.cells #[] 3)).heap.size; rw [World.size_alloc]; omega) (fun k e => by cases e; exact Nat.le_refl _)
      have R8 := R1.after b8
      have D8 := Lib.hid (D1.out.after b8)
      have P8 := Lib.hid (P1.out.after b8)
      have C8 := Lib.hid (C1.out.trans (Chg.of_below b8))
      have HB8 : Hid (Below B w w8) := Lib.hid (((hb0.out.mono hBw).trans ((Below.refl B W0).drew)).trans (b8.mono hBg))
      have hs8 : W0.heap.size ≤ w8.heap.size := b8.size
      refine hK.out _ _ R8 (fun _ => ?_)
      clear hK K bl2 O2 R2 hrow2 g8 b8
      rw [List.nil_append] at O8
      obtain ⟨x8, N8, _⟩ := own_rnums rfl O8 hwf
      have k1 := fail_any a S false o.wl _ (by omega) w8 (by rw [D8.out.p_]; exact P8.out.lt.1) D8.out.pc N8.nums
      clear O8
      refine wpAnyH_ready (rs := [9]) (by kernel_rfl) (by simp) (AllReadyH.cons rfl (fun K hK => ?_) AllReadyH.nil)
      go_simp
      ((with_reducible refine k1.mono ?_); rintro e w9 ⟨bm, rfl, hbm, A9, q9⟩)
      have R9 := R8.chg q9 (fun e => hgv (.inl (.inl e)))
      refine hK.out _ _ R9 (fun _ => ?_)
      clear hK K k1 N8
      refine wpAnyH_done (by kernel_rfl) ?_ _
      have rc9 : RChip w9 r S := D8.out.rc.chg q9 (fun k hk e => D8.out.ap a.c (.inl rfl) (e ▸ hk))
      have c49 : w9.cell? ⟨gv, 4, none⟩ = some (.int .i64 o.n) := R9.cell 4
      have c79 : w9.cell? ⟨gv, 7, none⟩ = some (.slice A1 o.wl.length c1) := (R9.cell 7).trans (congrArg some e1)
      have N9 : Nums w9 w9.heap.size .i64 (.slice A1 o.wl.length c1) o.wl := ⟨A1, c1, rfl, l1, l2, (hrow.below (HB8.out.trans (q9.below (fun k e => by rw [e]; exact hfr _ (.inl (.inl rfl))) (Nat.le_trans hBg hs8)))).more (Nat.le_trans (Nat.le_trans hBg hs8) q9.size), hwf⟩
      have k2 := refFail_any r S false o.wl _ (by omega) w9 rc9 (by rw [D8.out.q_]; exact Nat.lt_of_lt_of_le P8.out.lt.2 q9.size) N9
      clear N9 HRW
      go_wp2_with fail
      ((with_reducible refine k2.mono ?_); rintro e wa ⟨rfl, x, hx, Ra, qa⟩)
      go_wp2_with fail
      go_ret
      exact ⟨rfl, _, _, _, _, Went.of C8.out (Nat.le_trans hgs hs8) (D8.out.wentF P8.out q9 A9 hbm qa Ra hx)⟩
  by_cases hk5 : km = 5
  · subst hk5
    replace hkm : bits .and .i64 o.k 15 = 5 := hkm
    go_enter Try.func11, Try.ntmps11
    go_wp2_with fail
    rw [show w.heap.size = gv from hgve.symm]
    obtain ⟨W0, hW0⟩ : ∃ W0, W0 = w.alloc (.cells xs 39) := ⟨_, rfl⟩
    rw [← hW0] at D0 P0 C0 R0' hgs hb0 ⊢
    have R0 := R0'
    clear hW0 c0 c4 a0 hgve
    have R1 := R0.drew
    have D1 := Lib.hid (D0.out.after (Below.refl _ _).drew)
    have P1 := Lib.hid (P0.out.after (Below.refl _ _).drew)
    have C1 := Lib.hid (C0.out.trans (Chg.of_below (Below.refl _ _).drew))
    refine wp_region_held_drew (S := fun w' => Blk w' gv 39 o.row) (by kernel_rfl) R1 (fun _ => ?_)
    refine wpAnyH_take (i := 0) (v := .pointer (some ⟨a.c, 0, none⟩)) rfl (by kernel_rfl) (by kernel_rfl) (by kernel_rfl) (fun _ _ _ h => h) (Or.inl ⟨by kernel_rfl, fun w _ => by go_simp⟩) R1 ?_
    refine wpAnyH_take (i := 1) (v := .pointer (some ⟨gv, 2, none⟩)) rfl (by kernel_rfl) (by kernel_rfl) (by kernel_rfl) (fun _ _ _ h => h) (Or.inl ⟨by kernel_rfl, fun w _ => by go_simp⟩) R1 ?_
    refine wpAnyH_take (i := 2) (v := .int .i64 o.b) rfl (by kernel_rfl) (by kernel_rfl) (by kernel_rfl) (fun _ _ _ h => h) (yields_one (p := ⟨gv, 2, none⟩) int_flat (.tmp 96) (by kernel_rfl) (by kernel_rfl) (by kernel_rfl) (fun _ h => h.cell 2)) R1 ?_
    refine wpAnyH_take (i := 3) (v := .pointer (some ⟨gv, 3, none⟩)) rfl (by kernel_rfl) (by kernel_rfl) (by kernel_rfl) (fun _ _ _ h => h) (Or.inl ⟨by kernel_rfl, fun w _ => by go_simp⟩) R1 ?_
    refine wpAnyH_take (i := 4) (v := .int .i64 o.p) rfl (by kernel_rfl) (by kernel_rfl) (by kernel_rfl) (fun _ _ _ h => h) (yields_one (p := ⟨gv, 3, none⟩) int_flat (.tmp 98) (by kernel_rfl) (by kernel_rfl) (by kernel_rfl) (fun _ h => h.cell 3)) R1 ?_
    refine wpAnyH_take (i := 5) (v := .pointer (some ⟨gv, 4, none⟩)) rfl (by kernel_rfl) (by kernel_rfl) (by kernel_rfl) (fun _ _ _ h => h) (Or.inl ⟨by kernel_rfl, fun w _ => by go_simp⟩) R1 ?_
    refine wpAnyH_take (i := 6) (v := .int .i64 o.n) rfl (by kernel_rfl) (by kernel_rfl) (by kernel_rfl) (fun _ _ _ h => h) (yields_one (p := ⟨gv, 4, none⟩) int_flat (.tmp 100) (by kernel_rfl) (by kernel_rfl) (by kernel_rfl) (fun _ h => h.cell 4)) R1 ?_
    refine wpAnyH_take (i := 8) (v := .pointer (some ⟨r.c, 0, none⟩)) rfl (by kernel_rfl) (by kernel_rfl) (by kernel_rfl) (fun _ _ _ h => h) (Or.inl ⟨by kernel_rfl, fun w _ => by go_simp⟩) R1 ?_
    refine wpAnyH_take (i := 9) (v := .pointer (some ⟨gv, 2, none⟩)) rfl (by kernel_rfl) (by kernel_rfl) (by kernel_rfl) (fun _ _ _ h => h) (Or.inl ⟨by kernel_rfl, fun w _ => by go_simp⟩) R1 ?_
    refine wpAnyH_take (i := 10) (v := .int .i64 o.b) rfl (by kernel_rfl) (by kernel_rfl) (by kernel_rfl) (fun _ _ _ h => h) (yields_one (p := ⟨gv, 2, none⟩) int_flat (.tmp 104) (by kernel_rfl) (by kernel_rfl) (by kernel_rfl) (fun _ h => h.cell 2)) R1 ?_
    refine wpAnyH_take (i := 11) (v := .pointer (some ⟨gv, 3, none⟩)) rfl (by kernel_rfl) (by kernel_rfl) (by kernel_rfl) (fun _ _ _ h => h) (Or.inl ⟨by kernel_rfl, fun w _ => by go_simp⟩) R1 ?_
    refine wpAnyH_take (i := 12) (v := .int .i64 o.p) rfl (by kernel_rfl) (by kernel_rfl) (by kernel_rfl) (fun _ _ _ h => h) (yields_one (p := ⟨gv, 3, none⟩) int_flat (.tmp 106) (by kernel_rfl) (by kernel_rfl) (by kernel_rfl) (fun _ h => h.cell 3)) R1 ?_
    refine wpAnyH_take (i := 13) (v := .pointer (some ⟨gv, 4, none⟩)) rfl (by kernel_rfl) (by kernel_rfl) (by kernel_rfl) (fun _ _ _ h => h) (Or.inl ⟨by kernel_rfl, fun w _ => by go_simp⟩) R1 ?_
    refine wpAnyH_take (i := 14) (v := .int .i64 o.n) rfl (by kernel_rfl) (by kernel_rfl) (by kernel_rfl) (fun _ _ _ h => h) (yields_one (p := ⟨gv, 4, none⟩) int_flat (.tmp 108) (by kernel_rfl) (by kernel_rfl) (by kernel_rfl) (fun _ h => h.cell 4)) R1 ?_
    have k1 := (flip_any a S o.b o.p o.n _ D1.out.pc).mono (fun e w' hh => (⟨hh.1, hh.2.1, (D1.out.ppc P1.out.pp).chg hh.2.2 (fun e => (D1.out.np a.g (.inl (.inr (.inl rfl)))).1 (e.symm.trans D1.out.p_)), hh.2.2.more (fun _ _ e => .inl (.inr (.inl e)))⟩ : e = .returned (.int .i64 (S.flip o.b o.p o.n).2) ∧ PChip w' a (S.flip o.b o.p o.n).1 ∧ PPow w' a.p s ∧ Chg _ w' (fun j => a.own j ∨ j = a.p)))
    refine wpAnyH_ready (rs := [7]) (by kernel_rfl) (by simp) (AllReadyH.cons rfl (fun K hK => ?_) AllReadyH.nil)
    go_simp
    ((with_reducible refine k1.mono ?_); rintro e w2 ⟨rfl, A2, P2, q2⟩)
    have R2 := R1.chg q2 (fun e => hgv (e.elim (fun e => .inl e) (fun e => .inr (.inr (.inl (e.trans D1.out.p_))))))
    refine hK.out _ _ R2 (fun _ => ?_)
    clear hK K k1
    obtain ⟨rc2, rp2⟩ := D1.out.mid P1.out q2
    have k2 := (refFlip_any r S o.b o.p o.n _ rc2).mono (fun e w' hh => (⟨hh.1, hh.2.1, rp2.chg hh.2.2 (fun e => (D1.out.np r.g (.inr (.inr (.inl rfl)))).2 (e.symm.trans D1.out.q_)), hh.2.2.more (fun _ _ e => .inl (.inr (.inl e)))⟩ : e = .returned (.int .i64 (S.flip o.b o.p o.n).2) ∧ RChip w' r (S.flip o.b o.p o.n).1 ∧ RPow w' r.p s ∧ Chg w2 w' (fun j => r.own j ∨ j = r.p)))
    refine wpAnyH_ready (rs := [15]) (by kernel_rfl) (by simp) (AllReadyH.cons rfl (fun K hK => ?_) AllReadyH.nil)
    go_simp
    ((with_reducible refine k2.mono ?_); rintro e w3 ⟨rfl, A3, P3, q3⟩)
    have R3 := R2.chg q3 (fun e => hgv (e.elim (fun e => .inr (.inl e)) (fun e => .inr (.inr (.inr (e.trans D1.out.q_))))))
    refine hK.out _ _ R3 (fun _ => ?_)
    clear hK K k2
    refine wpAnyH_take (i := 16) (v := .bool true) rfl (by kernel_rfl) (by kernel_rfl) (by kernel_rfl) (fun _ _ _ h => h) (Or.inl ⟨by kernel_rfl, fun w _ => by go_simp⟩) R3 ?_
    refine wpAnyH_ready (rs := [17]) (by kernel_rfl) (by simp) (AllReadyH.cons rfl (fun K hK => ?_) AllReadyH.nil)
    go_simp
    refine hK.out _ _ R3 (fun _ => ?_)
    clear hK K
    refine wpAnyH_done (by kernel_rfl) ?_ _
    go_wp2_with fail
    go_ret
    exact ⟨rfl, _, _, _, _, Went.of C1.out hgs (D1.out.went P1.out q2 A2 P2 q3 A3 P3 P1.out.fits (few_flip o.b o.p o.n))⟩
  by_cases hk6 : km = 6
  · subst hk6
    replace hkm : bits .and .i64 o.k 15 = 6 := hkm
    obtain ⟨m1, hm1⟩ : ∃ m1 : Bool, m1 = decide (o.n % 2 = 1) := ⟨_, rfl⟩
    have ha1 := and_1 o.n
    rcases (by omega : o.n % 2 = 0 ∨ o.n % 2 = 1) with hp | hp
    · rw [hp] at ha1 hm1
      obtain rfl : m1 = false := by rw [hm1]; decide
      clear hm1 hp
      go_enter Try.func11, Try.ntmps11
      go_wp2_with fail
      rw [show w.heap.size = gv from hgve.symm]
      obtain ⟨W0, hW0⟩ : ∃ W0, W0 = w.alloc (.cells xs 39) := ⟨_, rfl⟩
      rw [← hW0] at D0 P0 C0 R0' hgs hb0 ⊢
      have R0 := R0'
      clear hW0 c0 c4 a0 hgve
      have k1 := put_any a S true _ D0.out.pc
      ((with_reducible refine k1.mono ?_); rintro e w2 ⟨rfl, A2, q2⟩)
      have D2 : RChip w2 r S := D0.out.rc.chg q2 (fun k hk e => D0.out.ap a.c (.inl rfl) (e ▸ hk))
      have P2 := Lib.hid (P0.out.chg q2 (fun e => (D0.out.np a.c (.inl (.inl rfl))).1 e.symm) (fun e => (D0.out.np a.c (.inl (.inl rfl))).2 e.symm))
      have c42 : w2.cell? ⟨gv, 4, none⟩ = some (.int .i64 o.n) := (R0.chg q2 (fun e => hgv (.inl (.inl e)))).cell 4
      obtain ⟨vp, ve, fp, fe, B2, _⟩ := D2.cells
      have l5 : 5 < (S.rcells r vp ve).length := by show 5 < 11; omega
      have HD2 := Lib.hid D2
      have HA2 := Lib.hid A2
      clear k1 D2 A2
      go_wp2_with (with_reducible refine wpl_blk_bool false bool_one (.tmp 126) (.tmp 124) rfl rfl B2 5 l5 rfl rfl _ rfl ?_; intro w3 B3 g3 e3)
      go_ret
      have q3 : Chg w2 w3 (fun j => j = r.c) := Chg.of_grown g3 (fun k e => Option.some.inj e)
      have A3 : RChip w3 r { S with out := false } := HD2.out.own_cells' rfl rfl rfl g3 B2 B3
      exact ⟨rfl, _, _, _, _, Went.of C0.out hgs (D0.out.went P0.out (q2.more (fun _ _ e => .inl (.inl e))) HA2.out (by rw [D0.out.p_]; exact P2.out.pp) (q3.more (fun _ _ e => .inl (.inl e))) A3 (by rw [D0.out.q_]; exact P2.out.rp.chg q3 (fun e => (D0.out.np r.c (.inr (.inl rfl))).2 e.symm)) P0.out.fits (fun n hn => few_more (S := { S with out := false }) n hn))⟩
    · rw [hp] at ha1 hm1
      obtain rfl : m1 = true := by rw [hm1]; decide
      clear hm1 hp
      go_enter Try.func11, Try.ntmps11
      go_wp2_with fail
      rw [show w.heap.size = gv from hgve.symm]
      obtain ⟨W0, hW0⟩ : ∃ W0, W0 = w.alloc (.cells xs 39) := ⟨_, rfl⟩
      rw [← hW0] at D0 P0 C0 R0' hgs hb0 ⊢
      have R0 := R0'
      clear hW0 c0 c4 a0 hgve
      have k1 := put_any a S false _ D0.out.pc
      ((with_reducible refine k1.mono ?_); rintro e w2 ⟨rfl, A2, q2⟩)
      have D2 : RChip w2 r S := D0.out.rc.chg q2 (fun k hk e => D0.out.ap a.c (.inl rfl) (e ▸ hk))
      have P2 := Lib.hid (P0.out.chg q2 (fun e => (D0.out.np a.c (.inl (.inl rfl))).1 e.symm) (fun e => (D0.out.np a.c (.inl (.inl rfl))).2 e.symm))
      have c42 : w2.cell? ⟨gv, 4, none⟩ = some (.int .i64 o.n) := (R0.chg q2 (fun e => hgv (.inl (.inl e)))).cell 4
      obtain ⟨vp, ve, fp, fe, B2, _⟩ := D2.cells
      have l5 : 5 < (S.rcells r vp ve).length := by show 5 < 11; omega
      have HD2 := Lib.hid D2
      have HA2 := Lib.hid A2
      clear k1 D2 A2
      go_wp2_with (with_reducible refine wpl_blk_bool true bool_one (.tmp 126) (.tmp 124) rfl rfl B2 5 l5 rfl rfl _ rfl ?_; intro w3 B3 g3 e3)
      go_ret
      have q3 : Chg w2 w3 (fun j => j = r.c) := Chg.of_grown g3 (fun k e => Option.some.inj e)
      have A3 : RChip w3 r { S with out := true } := HD2.out.own_cells' rfl rfl rfl g3 B2 B3
      exact ⟨rfl, _, _, _, _, Went.of C0.out hgs (D0.out.went P0.out (q2.more (fun _ _ e => .inl (.inl e))) HA2.out (by rw [D0.out.p_]; exact P2.out.pp) (q3.more (fun _ _ e => .inl (.inl e))) A3 (by rw [D0.out.q_]; exact P2.out.rp.chg q3 (fun e => (D0.out.np r.c (.inr (.inl rfl))).2 e.symm)) P0.out.fits (fun n hn => few_more (S := { S with out := true }) n hn))⟩
  by_cases hk7 : km = 7
  · subst hk7
    replace hkm : bits .and .i64 o.k 15 = 7 := hkm
    have ha7 := and_7 o.n
    by_cases hp : o.n % 8 = 0
    · rw [hp] at ha7
      clear hp
      go_enter Try.func11, Try.ntmps11
      go_wp2_with fail
      rw [show w.heap.size = gv from hgve.symm]
      obtain ⟨W0, hW0⟩ : ∃ W0, W0 = w.alloc (.cells xs 39) := ⟨_, rfl⟩
      rw [← hW0] at D0 P0 C0 R0' hgs hb0 ⊢
      have R0 := R0'
      clear hW0 c0 c4 a0 hgve
      have k1 := die_any a S _ D0.out.pc
      ((with_reducible refine k1.mono ?_); rintro e w2 ⟨rfl, A2, q2⟩)
      have D2 : RChip w2 r S := D0.out.rc.chg q2 (fun k hk e => D0.out.ap a.c (.inl rfl) (e ▸ hk))
      have P2 := Lib.hid (P0.out.chg q2 (fun e => (D0.out.np a.c (.inl (.inl rfl))).1 e.symm) (fun e => (D0.out.np a.c (.inl (.inl rfl))).2 e.symm))
      obtain ⟨vp, ve, fp, fe, B2, _⟩ := D2.cells
      have l4 : 4 < (S.rcells r vp ve).length := by show 4 < 11; omega
      have HD2 := Lib.hid D2
      have HA2 := Lib.hid A2
      clear k1 D2 A2
      go_wp2_with (with_reducible refine wpl_blk_bool true bool_one (.tmp 137) (.const (.bool true)) rfl rfl B2 4 l4 rfl rfl _ rfl ?_; intro w3 B3 g3 e3)
      go_ret
      have q3 : Chg w2 w3 (fun j => j = r.c) := Chg.of_grown g3 (fun k e => Option.some.inj e)
      have A3 : RChip w3 r { S with dead := true } := HD2.out.own_cells' rfl rfl rfl g3 B2 B3
      exact ⟨rfl, _, _, _, _, Went.of C0.out hgs (D0.out.went P0.out (q2.more (fun _ _ e => .inl (.inl e))) HA2.out (by rw [D0.out.p_]; exact P2.out.pp) (q3.more (fun _ _ e => .inl (.inl e))) A3 (by rw [D0.out.q_]; exact P2.out.rp.chg q3 (fun e => (D0.out.np r.c (.inr (.inl rfl))).2 e.symm)) P0.out.fits (fun n hn => few_more (S := { S with dead := true }) n hn))⟩
    · have d7 : (o.n % 8 == 0) = false := by simp [hp]
      clear hp
      go_enter Try.func11, Try.ntmps11
      go_wp2_with fail
      rw [show w.heap.size = gv from hgve.symm]
      obtain ⟨W0, hW0⟩ : ∃ W0, W0 = w.alloc (.cells xs 39) := ⟨_, rfl⟩
      rw [← hW0] at D0 P0 C0 R0' hgs hb0 ⊢
      have R0 := R0'
      clear hW0 c0 c4 a0 hgve
      go_ret
      exact ⟨rfl, _, _, _, _, Went.of C0.out hgs (D0.out.wentP (Chg.refl _ _) P0.out)⟩
  · skip
    have e0 : ((km : Int) == 0) = false := by simp; omega
    have e1 : ((km : Int) == 1) = false := by simp; omega
    have e2 : ((km : Int) == 2) = false := by simp; omega
    have e3 : ((km : Int) == 3) = false := by simp; omega
    have e4 : ((km : Int) == 4) = false := by simp; omega
    have e5 : ((km : Int) == 5) = false := by simp; omega
    have e6 : ((km : Int) == 6) = false := by simp; omega
    have e7 : ((km : Int) == 7) = false := by simp; omega
    go_enter Try.func11, Try.ntmps11
    go_wp2_with fail
    rw [show w.heap.size = gv from hgve.symm]
    obtain ⟨W0, hW0⟩ : ∃ W0, W0 = w.alloc (.cells xs 39) := ⟨_, rfl⟩
    rw [← hW0] at D0 P0 C0 R0' hgs hb0 ⊢
    have R0 := R0'
    clear hW0 c0 c4 a0 hgve
    have R1 := R0.drew
    have D1 := Lib.hid (D0.out.after (Below.refl _ _).drew)
    have P1 := Lib.hid (P0.out.after (Below.refl _ _).drew)
    have C1 := Lib.hid (C0.out.trans (Chg.of_below (Below.refl _ _).drew))
    obtain ⟨y, hy⟩ := u8_of_wf' HOK.out.by_
    have kp := lpage_any y
    have hL := lpage_length y
    obtain ⟨L, hLL⟩ : ∃ L, L = lpage y := ⟨_, rfl⟩
    rw [← hLL] at kp hL
    clear hLL
    refine wp_region_held_drew (S := fun w' => Blk w' gv 39 o.row) (by kernel_rfl) R1 (fun _ => ?_)
    refine wpAnyH_take (i := 0) (v := .pointer (some ⟨a.c, 0, none⟩)) rfl (by kernel_rfl) (by kernel_rfl) (by kernel_rfl) (fun _ _ _ h => h) (Or.inl ⟨by kernel_rfl, fun w _ => by go_simp⟩) R1 ?_
    refine wpAnyH_take (i := 1) (v := .pointer (some ⟨gv, 2, none⟩)) rfl (by kernel_rfl) (by kernel_rfl) (by kernel_rfl) (fun _ _ _ h => h) (Or.inl ⟨by kernel_rfl, fun w _ => by go_simp⟩) R1 ?_
    refine wpAnyH_take (i := 2) (v := .int .i64 o.b) rfl (by kernel_rfl) (by kernel_rfl) (by kernel_rfl) (fun _ _ _ h => h) (yields_one (p := ⟨gv, 2, none⟩) int_flat (.tmp 11) (by kernel_rfl) (by kernel_rfl) (by kernel_rfl) (fun _ h => h.cell 2)) R1 ?_
    refine wpAnyH_take (i := 3) (v := .pointer (some ⟨gv, 3, none⟩)) rfl (by kernel_rfl) (by kernel_rfl) (by kernel_rfl) (fun _ _ _ h => h) (Or.inl ⟨by kernel_rfl, fun w _ => by go_simp⟩) R1 ?_
    refine wpAnyH_take (i := 4) (v := .int .i64 o.p) rfl (by kernel_rfl) (by kernel_rfl) (by kernel_rfl) (fun _ _ _ h => h) (yields_one (p := ⟨gv, 3, none⟩) int_flat (.tmp 13) (by kernel_rfl) (by kernel_rfl) (by kernel_rfl) (fun _ h => h.cell 3)) R1 ?_
    refine wpAnyH_take (i := 5) (v := .pointer (some ⟨gv, 6, none⟩)) rfl (by kernel_rfl) (by kernel_rfl) (by kernel_rfl) (fun _ _ _ h => h) (Or.inl ⟨by kernel_rfl, fun w _ => by go_simp⟩) R1 ?_
    refine wpAnyH_take (i := 6) (v := .int .u8 o.by_) rfl (by kernel_rfl) (by kernel_rfl) (by kernel_rfl) (fun _ _ _ h => h) (yields_one (p := ⟨gv, 6, none⟩) byte_flat (.tmp 15) (by kernel_rfl) (by kernel_rfl) (by kernel_rfl) (fun _ h => h.cell 6)) R1 ?_
    refine wpAnyH_take (i := 9) (v := .pointer (some ⟨r.c, 0, none⟩)) rfl (by kernel_rfl) (by kernel_rfl) (by kernel_rfl) (fun _ _ _ h => h) (Or.inl ⟨by kernel_rfl, fun w _ => by go_simp⟩) R1 ?_
    refine wpAnyH_take (i := 10) (v := .pointer (some ⟨gv, 2, none⟩)) rfl (by kernel_rfl) (by kernel_rfl) (by kernel_rfl) (fun _ _ _ h => h) (Or.inl ⟨by kernel_rfl, fun w _ => by go_simp⟩) R1 ?_
    refine wpAnyH_take (i := 11) (v := .int .i64 o.b) rfl (by kernel_rfl) (by kernel_rfl) (by kernel_rfl) (fun _ _ _ h => h) (yields_one (p := ⟨gv, 2, none⟩) int_flat (.tmp 20) (by kernel_rfl) (by kernel_rfl) (by kernel_rfl) (fun _ h => h.cell 2)) R1 ?_
    refine wpAnyH_take (i := 12) (v := .pointer (some ⟨gv, 3, none⟩)) rfl (by kernel_rfl) (by kernel_rfl) (by kernel_rfl) (fun _ _ _ h => h) (Or.inl ⟨by kernel_rfl, fun w _ => by go_simp⟩) R1 ?_
    refine wpAnyH_take (i := 13) (v := .int .i64 o.p) rfl (by kernel_rfl) (by kernel_rfl) (by kernel_rfl) (fun _ _ _ h => h) (yields_one (p := ⟨gv, 3, none⟩) int_flat (.tmp 22) (by kernel_rfl) (by kernel_rfl) (by kernel_rfl) (fun _ h => h.cell 3)) R1 ?_
    refine wpAnyH_take (i := 14) (v := .pointer (some ⟨gv, 6, none⟩)) rfl (by kernel_rfl) (by kernel_rfl) (by kernel_rfl) (fun _ _ _ h => h) (Or.inl ⟨by kernel_rfl, fun w _ => by go_simp⟩) R1 ?_
    refine wpAnyH_take (i := 15) (v := .int .u8 o.by_) rfl (by kernel_rfl) (by kernel_rfl) (by kernel_rfl) (fun _ _ _ h => h) (yields_one (p := ⟨gv, 6, none⟩) byte_flat (.tmp 24) (by kernel_rfl) (by kernel_rfl) (by kernel_rfl) (fun _ h => h.cell 6)) R1 ?_
    refine wpAnyH_ready (rs := [7]) (by kernel_rfl) (by simp) (AllReadyH.cons rfl (fun K hK => ?_) AllReadyH.nil)
    go_simp
    ((with_reducible refine (kp _).mono ?_); rintro e w2 ⟨rfl, b2⟩)
    have R2 := R1.after b2
    have D2 := Lib.hid (D1.out.after b2)
    have P2 := Lib.hid (P1.out.after b2)
    have C2 := Lib.hid (C1.out.trans (Chg.of_below b2))
    refine hK.out _ _ R2 (fun _ => ?_)
    clear hK K
    have k1 := program_any a S s o.b o.p L hL P2.out.fits hfew _ D2.out.pc (D2.out.ppc P2.out.pp)
    refine wpAnyH_ready (rs := [8]) (by kernel_rfl) (by simp) (AllReadyH.cons rfl (fun K hK => ?_) AllReadyH.nil)
    go_simp
    ((with_reducible refine k1.mono ?_); rintro e w3 ⟨rfl, A3, P3, q3⟩)
    have R3 := R2.chg q3 (fun e => hgv (e.elim (fun e => .inl e) (fun e => .inr (.inr (.inl (e.trans D2.out.p_))))))
    refine hK.out _ _ R3 (fun _ => ?_)
    clear hK K k1
    obtain ⟨rc3, rp3⟩ := D2.out.mid P2.out q3
    refine wpAnyH_ready (rs := [16]) (by kernel_rfl) (by simp) (AllReadyH.cons rfl (fun K hK => ?_) AllReadyH.nil)
    go_simp
    ((with_reducible refine (kp _).mono ?_); rintro e w4 ⟨rfl, b4⟩)
    have R4 := R3.after b4
    refine hK.out _ _ R4 (fun _ => ?_)
    clear hK K
    have k2 := refProgram_any r S s o.b o.p L hL P2.out.fits hfew _ (rc3.after b4) (RPow.after rp3 b4) (fun k e => Nat.lt_of_lt_of_le (D2.out.xlt k e) (Nat.le_trans q3.size b4.size))
    refine wpAnyH_ready (rs := [17]) (by kernel_rfl) (by simp) (AllReadyH.cons rfl (fun K hK => ?_) AllReadyH.nil)
    go_simp
    ((with_reducible refine k2.mono ?_); rintro e w5 ⟨rfl, A5, P5, q5⟩)
    have R5 := R4.chg q5 (fun e => hgv (e.elim (fun e => .inr (.inl e)) (fun e => .inr (.inr (.inr (e.trans D2.out.q_))))))
    refine hK.out _ _ R5 (fun _ => ?_)
    clear hK K k2
    refine wpAnyH_take (i := 18) (v := .bool true) rfl (by kernel_rfl) (by kernel_rfl) (by kernel_rfl) (fun _ _ _ h => h) (Or.inl ⟨by kernel_rfl, fun w _ => by go_simp⟩) R5 ?_
    refine wpAnyH_ready (rs := [19]) (by kernel_rfl) (by simp) (AllReadyH.cons rfl (fun K hK => ?_) AllReadyH.nil)
    go_simp
    refine hK.out _ _ R5 (fun _ => ?_)
    clear hK K
    refine wpAnyH_done (by kernel_rfl) ?_ _
    go_wp2_with fail
    go_ret
    exact ⟨rfl, _, _, _, _, Went.of C2.out (Nat.le_trans hgs b2.size) (D2.out.went P2.out q3 A3 P3 ((Chg.of_below b4).trans q5) A5 P5 (program_fits o.b o.p L P2.out.fits) (few_program o.b o.p L s))⟩
end Go.Proofs.Ytjdegfblacbkoaa
