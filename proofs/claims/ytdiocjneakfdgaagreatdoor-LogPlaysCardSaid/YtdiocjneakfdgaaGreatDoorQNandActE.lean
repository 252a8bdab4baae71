/- The contract of act, as Erase calls it. Condition: the power is on; the chip, its block and what is handed in are there. -/
import Derived.Test.YtdiocjneakfdgaaGreatDoorQNandActP
namespace Go.Proofs.YtdiocjneakfdgaaGreatDoor
open Go.RowKit
def Ch.actE (S : Ch) (b : Nat) (s : NM.Pwr) : Ch × Int :=
  ({ S with cnt := S.cnt + 1, de := S.de + 1, bs := wipeB S.bs b (actN s.act.2 (S.fe S.de) (S.bs.getD b ⟨[], 0, false⟩).bad s.keep 8 0).1 }, (actN s.act.2 (S.fe S.de) (S.bs.getD b ⟨[], 0, false⟩).bad s.keep 8 0).2)
theorem wip_any (g b n : Nat) (z : Int) (hz : z = (n : Int)) (Bs : List Bk) (hb : b < Bs.length) (hn : n ≤ 8) (hN : Bs.length ≤ 40) (w : World) (hB : BG w g Bs) :
    Calls Tryz.prog 41 #[.pointer (some ⟨g, b * 2066, none⟩), .int .i64 z] w fun e w' => e = .returned (.tuple #[]) ∧ BG w' g (wipeB Bs b n) ∧ Chg w w' (fun j => j = g) := by
  subst hz
  exact bwipe_any g Bs b n hb hn hN w hB
set_option maxRecDepth 100000 in
set_option maxHeartbeats 4000000 in
theorem actE_any (a : At) (S : Ch) (s : NM.Pwr) (b : Nat)  (hb : b < S.bs.length) (hoff : s.off = false) (hfit : s.fits) (hsm : S.few 1000000) (w : World) (h : PChip w a S) (hp : PPow w a.p s)  :
    Calls Tryz.prog 99 #[.pointer (some ⟨a.c, 0, none⟩), .pointer (some ⟨a.g, b * 2066, none⟩), .pointer (some ⟨a.c, 6, none⟩), .func (.func 41) #[.pointer (some ⟨a.g, b * 2066, none⟩)] #[], .int .i64 8, .int .i64 0] w fun e w' =>
      e = .returned (.int .i64 (S.actE b  s).2) ∧ PChip w' a (S.actE b  s).1 ∧ PPow w' a.p s.act.1 ∧ Chg w w' (fun j => a.own j ∨ j = a.p) := by
  obtain ⟨⟨vp, ve, hB, hFp, hFe⟩, hG, hlen, cg, pc, pg, mps, mes, mm⟩ := h
  have c1 := hB.cell 8
  obtain ⟨hs1, hs2, hs3⟩ := hsm
  have hw : IntKind.i64.wrap ((S.cnt : Int) + 1) = (S.cnt : Int) + 1 := by rw [IntKind.wrap_i64]; omega
  have hcs : (S.cells a vp ve).set 8 (.int .i64 ((S.cnt : Int) + 1)) = ({ S with cnt := S.cnt + 1 } : Ch).cells a vp ve := rfl
  have hi8 : 8 < (S.cells a vp ve).length := by show 8 < 9; omega
  obtain ⟨bd, hbd⟩ : ∃ bd, bd = S.bs[b].bad := ⟨_, rfl⟩
  have HBD := Lib.hid hbd
  clear hbd
  go_enter Tryz.func99, Tryz.ntmps99
  go_wp2_with (first | (with_reducible refine wpl_blk_load int_flat (.tmp 18) rfl rfl hB 8 rfl rfl ?_) | (with_reducible refine wpl_blk_int .i64 ((S.cnt : Int) + 1) int_one (.tmp 22) (.tmp 20) rfl rfl hB 8 hi8 rfl rfl _ hcs ?_; intro w1 B1' g1 e1))
  have G1 : Hid (Chg w w1 (fun j => a.own j ∨ j = a.p)) := Lib.hid (Chg.of_grown g1 (fun k e => .inl (.inl (Option.some.inj e))))
  have q1 : Chg w w1 (fun j => j = a.c) := Chg.of_grown g1 (fun k e => Option.some.inj e)
  have Fp1 := hFp.chg q1 (fun b e => (mps b e).1)
  have Fe1 := hFe.chg q1 (fun b e => (mes b e).1)
  have BG1 := hG.chg q1 (fun e => cg e.symm)
  have PP1 := hp.chg q1 pc
  have hN40 := hlen.2
  clear g1 e1 q1 hB hFp hFe hG hp c1 hw hcs hi8
  have k2 := count_any a.c 6 _ ve a.me S.de S.fe (by omega) w1 B1' rfl rfl Fe1 (fun b e => (mes b e).1)
  ((with_reducible refine k2.mono ?_); rintro e w2 ⟨rfl, B2', F2, q2⟩)
  have q2w : Chg w1 w2 (fun j => a.own j ∨ j = a.p) := q2.more (fun k _ e => .inl (e.elim (fun h => .inl h) (fun h => .inr (.inr (.inr h)))))
  have BG2 := BG1.chg q2 (fun e => e.elim (fun h => cg h.symm) (fun h => (mes _ h).2.1 rfl))
  have PP2 := PP1.chg q2 (fun e => e.elim (fun h => pc h) (fun h => (mes _ h).2.2 rfl))
  have X2 := Fp1.chg q2 (fun b e h => h.elim (fun h => (mps b e).1 h) (fun h => mm b e h))
  skip
  have c0 : w2.cell? ⟨a.c, 0, none⟩ = some (.pointer (some ⟨a.p, 0, none⟩)) := B2'.cell 0
  have k3 := draw_any a.p s hfit hoff w2 PP2
  have HX := Lib.hid X2
  have HF := Lib.hid F2
  have HB := Lib.hid B2'
  have G2 : Hid (Chg w w2 (fun j => a.own j ∨ j = a.p)) := Lib.hid (G1.out.trans q2w)
  clear q2 q2w G1 X2 F2 B2' PP2 PP1 BG1 k2 Fp1 Fe1
  go_wp2_with fail
  ((with_reducible refine k3.mono ?_); rintro e w3 ⟨rfl, PP3, g3⟩)
  have q3 : Chg w2 w3 (fun j => j = a.p) := Chg.of_grown g3 (fun k e => Option.some.inj e)
  have B3 := Lib.hid (HB.out.chg q3 (fun e => pc e.symm))
  have F3 := Lib.hid (HF.out.chg q3 (fun b e => (mes b e).2.2))
  have X3 := Lib.hid (HX.out.chg q3 (fun b e => (mps b e).2.2))
  have BG3 := BG2.chg q3 (fun e => pg e.symm)
  skip
  have G3 : Hid (Chg w w3 (fun j => a.own j ∨ j = a.p)) := Lib.hid (G2.out.trans (q3.more (fun k _ e => .inr e)))
  have fin : ∀ (n : Nat) (r : Int) (w4 : World), actN s.act.2 (S.fe S.de) bd s.keep 8 0 = (n, r) → BG w4 a.g (wipeB S.bs b n) → Chg w3 w4 (fun j => j = a.g) → (S.actE b  s).2 = r ∧ PChip w4 a (S.actE b  s).1 ∧ PPow w4 a.p s.act.1 ∧ Chg w w4 (fun j => a.own j ∨ j = a.p) := by
    intro n r w4 hn hb4 q4
    unfold Ch.actE
    rw [getBk hb, ← HBD.out, hn]
    refine ⟨rfl, ⟨⟨vp, ve, ?_, ?_, ?_⟩, hb4, by show 16 ≤ (wipeB S.bs b n).length ∧ (wipeB S.bs b n).length ≤ 40; rw [wipeB_length _]; exact hlen, cg, pc, pg, mps, mes, mm⟩, PP3.chg q4 pg, G3.out.trans (q4.more (fun k _ e => .inl (.inr (.inl e))))⟩
    · have e := B3.out.chg q4 (fun e => cg e)
      have hl : (wipeB S.bs b n).length = S.bs.length := wipeB_length _
      show Blk w4 a.c 77 _
      unfold Ch.cells at e ⊢
      simp only at e ⊢
      rw [hl]
      exact e
    · exact X3.out.chg q4 (fun b e => (mps b e).2.1)
    · exact F3.out.chg q4 (fun b e => (mes b e).2.1)
  have HFIN := Lib.hid fin
  have cbad := BG3.bad hb
  rw [← HBD.out] at cbad
  have HBG := Lib.hid BG3
  clear fin q3 g3 BG3 BG2 PP3 G2 HB HF HX k3 hlen HBD
  obtain ⟨en, hen⟩ : ∃ en, en = s.act.2 := ⟨_, rfl⟩
  obtain ⟨fl, hfl⟩ : ∃ fl, fl = S.fe S.de := ⟨_, rfl⟩
  obtain ⟨kp, hkp⟩ : ∃ kp, kp = s.keep := ⟨_, rfl⟩
  rw [← hen, ← hfl, ← hkp] at HFIN
  rw [← hen, ← hfl, ← hkp]
  clear hen hfl hkp
  cases en with
  | true =>
    by_cases c1 : kp < 0
    · have e1 : actN true fl bd kp 8 0 = (0, 30) := by
        show ((min (max kp 0) _).toNat, (30 : Int)) = _
        rw [show (min (max kp 0) ((8 : Nat) : Int)).toNat = 0 by omega]
      have k4 := wip_any a.g b 0 0 rfl S.bs hb (by omega) hN40 w3 HBG.out
      have HE := Lib.hid e1
      clear e1
      go_wp2_with fail
      ((with_reducible refine (k4).mono ?_); rintro e w4 ⟨rfl, B4, q4⟩)
      obtain ⟨r1, r2, r3, r4⟩ := HFIN.out _ _ w4 HE.out B4 q4
      clear k4 HFIN HE B4 q4
      go_wp2_with fail
      (try simp only [Exit.inBlock, Exit.then])
      go_ret
      exact ⟨congrArg (fun z => Ending.returned (Value.int .i64 z)) r1.symm, r2, r3, r4⟩
    · by_cases c2 : kp ≤ 8
      · obtain ⟨m, rfl⟩ : ∃ m : Nat, kp = (m : Int) := ⟨kp.toNat, by omega⟩
        have hm : m ≤ 8 := by omega
        have e1 : actN true fl bd (m : Int) 8 0 = (m, 30) := by
          show ((min (max (m : Int) 0) _).toNat, (30 : Int)) = _
          rw [show (min (max (m : Int) 0) ((8 : Nat) : Int)).toNat = m by omega]
        have k4 := wip_any a.g b m (m : Int) rfl S.bs hb (by omega) hN40 w3 HBG.out
        have HE := Lib.hid e1
        clear e1
        go_wp2_with fail
        ((with_reducible refine (k4).mono ?_); rintro e w4 ⟨rfl, B4, q4⟩)
        obtain ⟨r1, r2, r3, r4⟩ := HFIN.out _ _ w4 HE.out B4 q4
        clear k4 HFIN HE B4 q4
        go_wp2_with fail
        (try simp only [Exit.inBlock, Exit.then])
        go_ret
        exact ⟨congrArg (fun z => Ending.returned (Value.int .i64 z)) r1.symm, r2, r3, r4⟩
      · have e1 : actN true fl bd kp 8 0 = (8, 30) := by
          show ((min (max kp 0) _).toNat, (30 : Int)) = _
          rw [show (min (max kp 0) ((8 : Nat) : Int)).toNat = 8 by omega]
        have k4 := wip_any a.g b 8 8 rfl S.bs hb (by omega) hN40 w3 HBG.out
        have HE := Lib.hid e1
        clear e1
        go_wp2_with fail
        ((with_reducible refine (k4).mono ?_); rintro e w4 ⟨rfl, B4, q4⟩)
        obtain ⟨r1, r2, r3, r4⟩ := HFIN.out _ _ w4 HE.out B4 q4
        clear k4 HFIN HE B4 q4
        go_wp2_with fail
        (try simp only [Exit.inBlock, Exit.then])
        go_ret
        exact ⟨congrArg (fun z => Ending.returned (Value.int .i64 z)) r1.symm, r2, r3, r4⟩
  | false =>
    cases fl with
    | true =>
      have e1 : actN false true bd kp 8 0 = (0, 33) := rfl
      have k4 := wip_any a.g b 0 0 rfl S.bs hb (by omega) hN40 w3 HBG.out
      have HE := Lib.hid e1
      clear e1
      go_wp2_with fail
      ((with_reducible refine (k4).mono ?_); rintro e w4 ⟨rfl, B4, q4⟩)
      obtain ⟨r1, r2, r3, r4⟩ := HFIN.out _ _ w4 HE.out B4 q4
      clear k4 HFIN HE B4 q4
      go_wp2_with fail
      (try simp only [Exit.inBlock, Exit.then])
      go_ret
      exact ⟨congrArg (fun z => Ending.returned (Value.int .i64 z)) r1.symm, r2, r3, r4⟩
    | false =>
      cases bd with
      | true =>
        have e1 : actN false false true kp 8 0 = (0, 33) := rfl
        have k4 := wip_any a.g b 0 0 rfl S.bs hb (by omega) hN40 w3 HBG.out
        have HE := Lib.hid e1
        clear e1
        go_wp2_with fail
        ((with_reducible refine (k4).mono ?_); rintro e w4 ⟨rfl, B4, q4⟩)
        obtain ⟨r1, r2, r3, r4⟩ := HFIN.out _ _ w4 HE.out B4 q4
        clear k4 HFIN HE B4 q4
        go_wp2_with fail
        (try simp only [Exit.inBlock, Exit.then])
        go_ret
        exact ⟨congrArg (fun z => Ending.returned (Value.int .i64 z)) r1.symm, r2, r3, r4⟩
      | false =>
        have e1 : actN false false false kp 8 0 = (8, 0) := rfl
        have k4 := wip_any a.g b 8 8 rfl S.bs hb (by omega) hN40 w3 HBG.out
        have HE := Lib.hid e1
        clear e1
        go_wp2_with fail
        ((with_reducible refine (k4).mono ?_); rintro e w4 ⟨rfl, B4, q4⟩)
        obtain ⟨r1, r2, r3, r4⟩ := HFIN.out _ _ w4 HE.out B4 q4
        clear k4 HFIN HE B4 q4
        go_wp2_with fail
        (try simp only [Exit.inBlock, Exit.then])
        go_ret
        exact ⟨congrArg (fun z => Ending.returned (Value.int .i64 z)) r1.symm, r2, r3, r4⟩
end Go.Proofs.YtdiocjneakfdgaaGreatDoor

