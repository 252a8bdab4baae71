/- The contract of the reference's Erase. Condition: the chip and its power are there; few acts so far. -/
import Derived.Test.YtjdegfblacbkoaaNandRefP
namespace Go.Proofs.Ytjdegfblacbkoaa
open Go.RowKit
theorem RChip.wipe {w : World} {r : RAt} {S : Ch} (h : RChip w r S) {b : Nat} (hb : b < S.bs.length) (n : Int) (m : Nat) (hm : m = NM.clip8 n) {z : Int} (hz : z = (b : Int)) :
    Calls Try.prog 26 #[.pointer (some ⟨r.c, 0, none⟩), .int .i64 z, .int .i64 n] w fun e w' => e = .returned (.tuple #[]) ∧ RChip w' r { S with bs := wipeB S.bs b m } ∧ Chg w w' (fun j => j = r.g) := by
  subst hz
  have h' := h
  obtain ⟨vp, ve, fp, fe, h1, _⟩ := h.cells
  have hl := pgsOf_length h.ok
  have hlen := h.len
  have h8 : m ≤ 8 := by rw [hm]; unfold NM.clip8; omega
  have k1 := refWipe1 r.c r.g _ (pgsOf S.bs) (8 * S.bs.length) hl (by omega) rfl h.apart.1 b (by omega) (pgsOf_all h.ok) n w h1 h.pgs
  rw [← hm, ← pgsOf_wipe h.ok hb h8] at k1
  refine k1.mono (fun e w' hh => ⟨hh.1, h'.pages (wipeB_length _) ?_ ?_ (wipeB_ok h'.ok hb _) hh.2.2 hh.2.1, Chg.of_grown hh.2.2 (fun k e => Option.some.inj e)⟩)
  · unfold wipeB
    rw [getBk hb, List.map_set]
    have : ({ S.bs[b] with pg := wipP m S.bs[b].pg } : Bk).nx = (S.bs.map (·.nx))[b]'(by simpa using hb) := by simp
    rw [this, List.set_getElem_self]
  · unfold wipeB
    rw [getBk hb, List.map_set]
    have : ({ S.bs[b] with pg := wipP m S.bs[b].pg } : Bk).bad = (S.bs.map (·.bad))[b]'(by simpa using hb) := by simp
    rw [this, List.set_getElem_self]
set_option maxRecDepth 100000 in
set_option maxHeartbeats 4000000 in
theorem refErase_any (r : RAt) (S : Ch) (s : NM.Pwr) (b : Int) (hfit : s.fits) (hsm : S.few 1000000) (w : World) (h : RChip w r S) (hp : RPow w r.p s) :
    Calls Try.prog 28 #[.pointer (some ⟨r.c, 0, none⟩), .int .i64 b] w fun e w' =>
      e = .returned (.int .i64 (S.erase b s).2.2) ∧ RChip w' r (S.erase b s).1 ∧ RPow w' r.p (S.erase b s).2.1 ∧ Chg w w' (fun j => r.own j ∨ j = r.p) := by
  have C0 := Lib.hid h
  have P0 := Lib.hid hp
  have k1 := h.may hp b 0
  obtain ⟨e, he⟩ : ∃ e, e = NM.may s.off S.live S.bs.length b 0 := ⟨_, rfl⟩
  have HE := Lib.hid he
  rw [← he] at k1
  clear h hp
  by_cases h0 : e = 0
  · subst h0
    obtain ⟨ho, hlv, q1, q2, _, _⟩ := may_zero he.symm
    obtain ⟨b', rfl⟩ : ∃ b' : Nat, b = (b' : Int) := ⟨b.toNat, by omega⟩
    have hb : b' < S.bs.length := by omega
    have hlen := C0.out.len
    obtain ⟨sm1, sm2, sm3⟩ := hsm
    clear he
    have ww1 : IntKind.i64.wrap ((S.cnt : Int) + 1) = (S.cnt : Int) + 1 := by rw [IntKind.wrap_i64]; omega
    obtain ⟨c0, c2, c3, c8, c9, c10⟩ := C0.out.rcell
    have f10 := (C0.out.free 10).1
    obtain ⟨C1, g1⟩ := C0.out.setc (S' := { S with cnt := S.cnt + 1 }) rfl rfl rfl 10 (.int .i64 ((S.cnt : Int) + 1)) (fun _ _ => rfl)
    have HC2 := Lib.hid C1
    have q2' : Chg w (w.setCell ⟨r.c, 10, none⟩ (.int .i64 ((S.cnt : Int) + 1))) (fun j => j = r.c) := Chg.of_grown g1 (fun k e => Option.some.inj e)
    have HG2 := Lib.hid (q2'.more (T := fun j => r.own j ∨ j = r.p) (fun _ _ e => .inl (.inl e)))
    have HP2 := Lib.hid (P0.out.chg q2' (fun e => C0.out.pn (.inl e)))
    clear C1 g1 q2'
    go_enter Try.func28, Try.ntmps28
    go_wp2_with ((with_reducible refine k1.mono ?_); rintro e w' ⟨rfl, rfl⟩)
    obtain ⟨W2, hW2⟩ : ∃ W2, W2 = w.setCell ⟨r.c, 10, none⟩ (.int .i64 ((S.cnt : Int) + 1)) := ⟨_, rfl⟩
    rw [← hW2] at HC2 HG2 HP2 ⊢
    clear hW2 C0 P0 k1 c0 c2 c3 c8 c9 c10 f10
    obtain ⟨S2, hS2⟩ : ∃ S2, S2 = ({ S with cnt := S.cnt + 1 } : Ch) := ⟨_, rfl⟩
    rw [← hS2] at HC2
    have l2 : S2.bs.length = S.bs.length := by rw [hS2]
    have hb2 : b' < S2.bs.length := by rw [l2]; exact hb
    have e2 : S2.de = S.de := by rw [hS2]
    obtain ⟨c0, c2, c3, c8, c9, c10⟩ := HC2.out.rcell
    rw [l2] at c2 c3
    rw [e2] at c9
    obtain ⟨vp, ve, fp, fe, B2, rp, re, hfp, hfe⟩ := HC2.out.cells
    have c7 : W2.cell? ⟨r.c, 7, none⟩ = some ve := B2.cell 7
    have cb := HC2.out.badc hb2
    obtain ⟨bd, hbd⟩ : ∃ bd, bd = (S2.bs.getD b' ⟨[], 0, false⟩).bad := ⟨_, rfl⟩
    rw [← hbd] at cb
    have ki : ∀ k, Calls Try.prog 47 #[ve, .int .i64 (S.de : Int)] (W2.drewN k) fun e w' => e = .returned (.bool (S2.fe S2.de)) ∧ w' = W2.drewN k := fun k => by
      rw [hfe, e2]
      exact (refIn_any ve fe S.de (W2.drewN k) W2.heap.size re.nums).mono (fun _ _ h => ⟨h.1, h.2.symm⟩)
    have HS2 := Lib.hid hS2
    have HBD := Lib.hid hbd
    obtain ⟨fl, hfl⟩ : ∃ fl, fl = S2.fe S2.de := ⟨_, rfl⟩
    rw [← hfl] at ki
    have HFL := Lib.hid hfl
    have ww3 : IntKind.i64.wrap ((S.de : Int) + 1) = (S.de : Int) + 1 := by rw [IntKind.wrap_i64]; omega
    obtain ⟨a1, a2, a3, a4, a5, a6⟩ := HC2.out.apart
    have n1 : (r.n = r.c) = False := by simp; exact fun e => a2 e.symm
    have n2 : (r.c = r.n) = False := by simp; exact a2
    have n3 : (r.n == r.c) = false := by simp; exact fun e => a2 e.symm
    have n4 : (r.c == r.n) = false := by simp; exact a2
    clear hS2 hbd hfl B2 rp re hfp hfe
    have hfin : Hid (∀ m z, actN s.act.2 fl bd s.keep 8 0 = (m, z) → S.erase (b' : Int) s = (if z = 0 then ({ (({ S2 with de := S2.de + 1 } : Ch).setNext b' 8) with bs := wipeB (({ S2 with de := S2.de + 1 } : Ch).setNext b' 8).bs b' m } : Ch).setNext b' 0 else { (({ S2 with de := S2.de + 1 } : Ch).setNext b' 8) with bs := wipeB (({ S2 with de := S2.de + 1 } : Ch).setNext b' 8).bs b' m }, s.act.1, z)) := Lib.hid (fun m z hmz => by
      unfold Ch.erase
      rw [← HE.out, if_neg (fun h => h rfl), show ((b' : Int)).toNat = b' by omega]
      have hbd' : ((S.setNext b' 8).bs.getD b' ⟨[], 0, false⟩).bad = bd := by
        rw [HBD.out, HS2.out]
        unfold Ch.setNext
        simp only
        rw [getD_set hb, if_pos rfl]
        rfl
      have a1 : ((S.setNext b' 8).actE b' s) = ({ (({ S2 with de := S2.de + 1 } : Ch).setNext b' 8) with bs := wipeB (({ S2 with de := S2.de + 1 } : Ch).setNext b' 8).bs b' m }, z) := by
        have m1 := congrArg (·.1) hmz
        have m2 := congrArg (·.2) hmz
        simp only at m1 m2
        unfold Ch.actE
        rw [hbd', ← m1, ← m2, HFL.out, HS2.out]
        rfl
      rw [a1])
    cases fl <;> cases bd
    all_goals
      go_quiet ((go_at_call 47; exact Calls.quiet_of_same (ki _)))
      have b9 : Below W2.heap.size W2 (W2.drewN nq) := ⟨rfl, rfl, rfl, Nat.le_refl _, fun _ _ => rfl⟩
      have C3 := HC2.out.after b9
      have P3 := HP2.out.after b9
      have G3 := Lib.hid (HG2.out.trans (Chg.of_below b9))
      obtain ⟨W3, hW3⟩ : ∃ W3, W3 = W2.drewN nq := ⟨_, rfl⟩
      rw [← hW3] at C3 P3 G3 ⊢
      obtain ⟨x0, x2, _, _, x9, _⟩ := C3.rcell
      rw [e2] at x9
      rw [l2] at x2
      have fr := (C3.free 9).1
      have frn := (C3.free b').2
      have xn := C3.nextc hb2
      obtain ⟨C4, g4⟩ := C3.setc (S' := { S2 with de := S2.de + 1 }) rfl rfl rfl 9 (.int .i64 ((S.de : Int) + 1)) (fun _ _ => by rw [← e2]; rfl)
      have q4 : Chg W3 (W3.setCell ⟨r.c, 9, none⟩ (.int .i64 ((S.de : Int) + 1))) (fun j => j = r.c) := Chg.of_grown g4 (fun k e => Option.some.inj e)
      obtain ⟨C5, g5⟩ := C4.setn (b := b') (n := 8) hb2 (by omega)
      have q5 := Chg.of_grown (S := fun j => j = r.n) g5 (fun k e => Option.some.inj e)
      have P5 := (P3.chg q4 (fun e => C3.pn (.inl e))).chg q5 (fun e => C4.pn (.inr (.inr (.inl e))))
      have HG5 := Lib.hid ((G3.out.trans (q4.more (T := fun j => r.own j ∨ j = r.p) (fun _ _ e => .inl (.inl e)))).trans (q5.more (T := fun j => r.own j ∨ j = r.p) (fun _ _ e => .inl (.inr (.inr (.inl e))))))
      have k4 := refAct_any r.p s hfit _ P5
      have HC5 := Lib.hid C5
      have e8 : ((8 : Nat) : Int) = 8 := rfl
      rw [e8] at k4 HC5 HG5
      clear P5 C4 C5 q4 g4 q5 g5 C3 P3 G3 b9 hW3 HC2 HP2 HG2 ki c0 c3 c7 c8 c9 c10 cb e8
      obtain ⟨en, hen⟩ : ∃ en, en = s.act.2 := ⟨_, rfl⟩
      rw [← hen] at k4
      have HEN := Lib.hid hen
      clear hen
      go_wp2_with fail
      ((with_reducible refine k4.mono ?_); rintro e w5 ⟨rfl, P6', g6⟩)
      have q6 : Chg _ w5 (fun j => j = r.p) := Chg.of_grown g6 (fun k e => Option.some.inj e)
      have HC6 := Lib.hid (HC5.out.chg q6 (fun k hk e => HC5.out.pn (e ▸ hk)))
      have HG6 := Lib.hid (HG5.out.trans (q6.more (T := fun j => r.own j ∨ j = r.p) (fun _ _ e => .inr e)))
      have HP6 := Lib.hid P6'
      have hb6 : Hid (b' < (({ S2 with de := S2.de + 1 } : Ch).setNext b' 8).bs.length) := Lib.hid (by simpa [Ch.setNext] using hb2)
      have y0 := HC6.out.rcell.1
      have y2 : w5.cell? ⟨r.p, 2, none⟩ = some (.int .i64 s.keep) := by
        have h : w5.cell? ⟨r.p, 2, none⟩ = some (.int .i64 s.act.1.keep) := Blk.cell HP6.out 2
        have : s.act.1.keep = s.keep := by unfold NM.Pwr.act; split <;> rfl
        rw [this] at h
        exact h
      clear P6' q6 g6 k4 HC5 HG5 x0 x2 x9 xn fr frn
      cases en
      · first
        | (go_wp2_with fail
           go_ret
           rw [hfin.out 0 33 (by unfold actN; rw [if_neg (by rw [← HEN.out]; simp)]; rfl), wipeB_zero hb6.out]
           exact ⟨rfl, HC6.out, HP6.out, HG6.out⟩)
        | (go_wp2_with fail
           ((with_reducible refine (HC6.out.wipe hb6.out 8 8 rfl rfl).mono ?_); rintro e w7 ⟨rfl, C7, q7⟩)
           have hb7 : b' < (wipeB (({ S2 with de := S2.de + 1 } : Ch).setNext b' 8).bs b' 8).length := by rw [wipeB_length]; exact hb6.out
           have HP7 := Lib.hid (HP6.out.chg q7 (fun e => HC6.out.pn (.inr (.inl e))))
           have HG7 := Lib.hid (HG6.out.trans (q7.more (T := fun j => r.own j ∨ j = r.p) (fun _ _ e => .inl (.inr (.inl e)))))
           have z2 := C7.rcell.2.1
           have hl7 : (wipeB (({ S2 with de := S2.de + 1 } : Ch).setNext b' 8).bs b' 8).length = S.bs.length := by rw [wipeB_length, ← l2]; simp [Ch.setNext]
           have z2' : w7.cell? ⟨r.c, 2, none⟩ = some (.slice (some ⟨r.n, 0, none⟩) S.bs.length S.bs.length) := by rw [← hl7]; exact z2
           have zn := C7.nextc hb7
           have frz := (C7.free b').2
           obtain ⟨C8, g8⟩ := C7.setn (b := b') (n := 0) hb7 (by omega)
           have q8 := Chg.of_grown (S := fun j => j = r.n) g8 (fun k e => Option.some.inj e)
           have HP8 := Lib.hid (HP7.out.chg q8 (fun e => HC6.out.pn (.inr (.inr (.inl e)))))
           have HG8 := Lib.hid (HG7.out.trans (q8.more (T := fun j => r.own j ∨ j = r.p) (fun _ _ e => .inl (.inr (.inr (.inl e))))))
           have HC8 := Lib.hid C8
           have e8 : ((0 : Nat) : Int) = 0 := rfl
           rw [e8] at HC8 HP8 HG8
           clear C7 q7 C8 g8 q8 e8 z2 HP7 HG7 HP6 HG6 HC6 y0 y2 hl7
           go_wp2_with fail
           go_ret
           rw [hfin.out 8 0 (by unfold actN; rw [if_neg (by rw [← HEN.out]; simp)]; rfl)]
           exact ⟨rfl, HC8.out, HP8.out, HG8.out⟩)
      · go_wp2_with fail
        ((with_reducible refine (HC6.out.wipe hb6.out s.keep (min (max s.keep 0) 8).toNat (by unfold NM.clip8; omega) rfl).mono ?_); rintro e w7 ⟨rfl, C7, q7⟩)
        have HP7 := Lib.hid (HP6.out.chg q7 (fun e => HC6.out.pn (.inr (.inl e))))
        have HG7 := Lib.hid (HG6.out.trans (q7.more (T := fun j => r.own j ∨ j = r.p) (fun _ _ e => .inl (.inr (.inl e)))))
        have HC7 := Lib.hid C7
        clear C7 q7 HP6 HG6 HC6 y0 y2
        go_wp2_with fail
        go_ret
        rw [hfin.out (min (max s.keep 0) 8).toNat 30 (by unfold actN; rw [if_pos HEN.out.symm]; rfl)]
        exact ⟨rfl, HC7.out, HP7.out, HG7.out⟩
  · have hre : S.erase b s = (S, s, e) := by
      unfold Ch.erase
      rw [← he, if_pos h0]
    have HRE := Lib.hid hre
    have d1 : (e != 0) = true := by simp [h0]
    clear hre he h0
    go_enter Try.func28, Try.ntmps28
    go_wp2_with ((with_reducible refine k1.mono ?_); rintro e w' ⟨rfl, rfl⟩)
    go_ret
    rw [HRE.out]
    exact ⟨rfl, C0.out, P0.out, Chg.refl _ _⟩
end Go.Proofs.Ytjdegfblacbkoaa
