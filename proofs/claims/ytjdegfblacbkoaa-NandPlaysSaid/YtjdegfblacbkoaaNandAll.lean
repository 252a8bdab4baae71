/- The law's all: each page of the chip is the reference's. Condition: both chips stand for one plain state. -/
import Derived.Test.YtjdegfblacbkoaaNandCall
import Derived.Deep.MidRow
namespace Go.Proofs.Ytjdegfblacbkoaa
open Go.RowKit
theorem pages_flat (w : World) : (isAgg 50).run Try.prog w = .ok false w := by kernel_rfl
theorem setOut_bs (S : Ch) (b : Bool) : (S.setOut b).bs = S.bs := rfl
set_option maxRecDepth 100000 in
set_option maxHeartbeats 8000000 in
theorem all_any (a : At) (r : RAt) (S : Ch) (s : NM.Pwr) (p q : Nat) (w : World) (h : Duo w a r S p q) (hp : PPow w p s) :
    Calls Try.prog 19 #[.pointer (some ⟨a.c, 0, none⟩), .pointer (some ⟨r.c, 0, none⟩)] w fun e w' => e = .returned (.bool true) ∧ Chg w w' (fun j => a.own j ∨ j = p) ∧ ∃ s', PPow w' p s' := by
  have k1 := on_any p s w hp
  have a0 := h.pc.cell.1
  rw [h.p_] at a0
  have HD := Lib.hid h
  have hM := h.pc.len
  clear h hp
  go_enter Try.func19, Try.ntmps19
  go_wp2_with fail
  ((with_reducible refine k1.mono ?_); rintro e w1 ⟨rfl, P1, g1⟩)
  have q1 : Chg w w1 (fun j => j = p) := Chg.of_grown g1 (fun k e => Option.some.inj e)
  have D1 := HD.out.chg q1 (fun j hj e => (HD.out.np j hj).1 e)
  have k2 := put_any a S true w1 D1.pc
  have HD1 := Lib.hid D1
  have HP1 := Lib.hid P1
  have Q1 := Lib.hid q1
  clear P1 q1 D1 k1 g1 a0
  go_wp2_with fail
  ((with_reducible refine k2.mono ?_); rintro e w2 ⟨rfl, A2', q2⟩)
  have A2 := Lib.hid A2'
  have R2 : Hid (RChip w2 r S) := Lib.hid (HD1.out.rc.chg q2 (fun k hk e => HD1.out.ap a.c (.inl rfl) (e ▸ hk)))
  have P2 : Hid (PPow w2 a.p s.on) := Lib.hid (by rw [HD1.out.p_]; exact HP1.out.chg q2 (fun e => (HD1.out.np a.c (.inl (.inl rfl))).1 e.symm))
  have Q2 : Hid (Chg w w2 (fun j => a.own j ∨ j = p)) := Lib.hid ((Q1.out.more (fun _ _ e => .inr e)).trans (q2.more (fun _ _ e => .inl (.inl e))))
  have hpq : a.p = p := HD.out.p_
  clear A2' q2 k2 HD1 HP1 Q1 HD
  obtain ⟨T, hT⟩ : ∃ T, T = S.setOut (!true) := ⟨_, rfl⟩
  rw [← hT] at A2
  have hTb : T.bs = S.bs := by rw [hT]; rfl
  have hTd : T.dead = S.dead := by rw [hT]; rfl
  have hTo : T.out = false := by rw [hT]; rfl
  obtain ⟨M, hMM⟩ : ∃ M, M = S.bs.length := ⟨_, rfl⟩
  have HM := Lib.hid hMM
  rw [← hMM] at hM
  have HTB := Lib.hid hTb
  obtain ⟨dd, hdd⟩ : ∃ dd, dd = S.dead := ⟨_, rfl⟩
  have HDD := Lib.hid hdd
  have hlive : Hid (dd = false → T.live = true) := Lib.hid (fun e => by unfold Ch.live; rw [hTo, hTd, ← hdd, e]; rfl)
  clear hT hTb hTd hTo hMM hdd
  have fin : Hid (∀ w', Below w2.heap.size w2 w' → Chg w w' (fun j => a.own j ∨ j = p) ∧ ∃ s', PPow w' p s') := Lib.hid (fun w' hb => ⟨Q2.out.trans (Chg.of_below hb), _, by rw [← hpq]; exact P2.out.after hb⟩)
  have RC : Hid (∀ w', Below w2.heap.size w2 w' → w'.cell? ⟨r.c, 2, none⟩ = some (.slice (some ⟨r.n, 0, none⟩) M M) ∧ w'.cell? ⟨r.c, 3, none⟩ = some (.slice (some ⟨r.b, 0, none⟩) M M) ∧ w'.cell? ⟨r.c, 4, none⟩ = some (.bool dd) ∧ w'.cell? ⟨r.c, 1, none⟩ = some (.slice (some ⟨r.g, 0, none⟩) (8 * M) (8 * M))) := Lib.hid (fun w' hb => by
    have h := R2.out.after hb
    obtain ⟨vp, ve, fp, fe, h1, _⟩ := h.cells
    rw [HM.out, HDD.out]
    exact ⟨h1.cell 2, h1.cell 3, h1.cell 4, h1.cell 1⟩)
  clear Q2 hpq
  go_wp2_with fail
  go_loopw [5] (fun i wr => ∃ j : Nat, j ≤ M ∧ i = .int .i64 j ∧ Below w2.heap.size w2 wr) (fun i _ => M - (intOf i).toNat)
  case atStart => exact ⟨0, Nat.zero_le _, rfl, Below.refl _ _⟩
  case round =>
    obtain ⟨j, hj, rfl, hb⟩ := hrel
    obtain ⟨c2, c3, c4, c1⟩ := RC.out wr hb
    have Hb := Lib.hid hb
    have kb := fun (k : Nat) (b : Int) => (bad_any a T b (wr.drewN k) ((A2.out.after hb).after ⟨rfl, rfl, rfl, Nat.le_refl _, fun _ _ => rfl⟩)).mono (fun _ _ h => (⟨h.1, h.2.symm⟩ : _ ∧ _ = wr.drewN k))
    have kb1 := fun (b : Int) => bad_any a T b wr (A2.out.after hb)
    clear hb
    by_cases hlt : j < M
    · have hjS : j < S.bs.length := by rw [← HM.out]; exact hlt
      have cb := (R2.out.after Hb.out).badc hjS
      have hbd : T.isBad (j : Int) = (S.bs.getD j ⟨[], 0, false⟩).bad := by
        unfold Ch.isBad
        rw [if_neg (by rw [HTB.out]; omega), Int.toNat_natCast, HTB.out]
      obtain ⟨bd, hbd2⟩ : ∃ bd, bd = (S.bs.getD j ⟨[], 0, false⟩).bad := ⟨_, rfl⟩
      rw [← hbd2] at hbd cb
      have kb' := fun k => kb k (j : Int)
      rw [hbd] at kb'
      have hself : (bd != bd) = false := by cases bd <;> rfl
      clear kb kb1 hbd hbd2
      go_wp2_with fail
      go_quiet ((go_at_call 41; exact Calls.quiet_of_same (kb' _)))
      have b9 : Below wr.heap.size wr (wr.drewN nq) := ⟨rfl, rfl, rfl, Nat.le_refl _, fun _ _ => rfl⟩
      have Hb9 := Lib.hid (Hb.out.trans (b9.mono Hb.out.size))
      obtain ⟨w3, hw3⟩ : ∃ w3, w3 = wr.drewN nq := ⟨_, rfl⟩
      rw [← hw3] at Hb9 ⊢
      clear hw3 b9 kb' c1 c2 c3 c4 cb Hb
      cases dd
      · go_wp2_with fail
        go_loopw [6] (fun i wr => ∃ k : Nat, k ≤ 8 ∧ i = .int .i64 k ∧ Below w2.heap.size w2 wr) (fun i _ => 8 - (intOf i).toNat)
        case atStart => exact ⟨0, Nat.zero_le _, rfl, Hb9.out⟩
        case round =>
          obtain ⟨k, hk, rfl, hb⟩ := hrel
          obtain ⟨c2, c3, c4, c1⟩ := RC.out wr hb
          have Hb := Lib.hid hb
          have d8 : ¬ (8 < k) := by omega
          clear Hb9
          by_cases hlk : k < 8
          · have hm : NM.may s.on.off T.live (T.bs.length : Int) (j : Int) (k : Int) = 0 := may_ok rfl (hlive.out (by first | rfl | trivial)) (by rw [HTB.out]; exact hjS) hlk
            have k3 := read_any a T s.on (j : Int) (k : Int) wr (A2.out.after hb) (P2.out.after hb)
            have hpg : T.readPage 0 (j : Int) (k : Int) = pageOf S.bs j k := by
              unfold Ch.readPage
              rw [if_pos rfl, Int.toNat_natCast, Int.toNat_natCast, HTB.out]
            rw [hm, hpg] at k3
            have hL := pageOf_length R2.out.ok hjS hlk
            have hq : 8 * j + k < (pgsOf S.bs).length := by rw [pgsOf_length R2.out.ok, ← HM.out]; omega
            have hPg : (pgsOf S.bs)[8 * j + k] = pageOf S.bs j k := by
              have := pgsOf_get R2.out.ok hjS hlk
              rw [List.getElem?_eq_getElem hq] at this
              exact Option.some.inj this
            obtain ⟨L, hLL⟩ : ∃ L, L = pageOf S.bs j k := ⟨_, rfl⟩
            rw [← hLL] at k3 hL hPg
            have HPG := Lib.hid hPg
            have hEq : ∀ w, (Op.equalIn 10000 55 (.agg (cl L)) (.agg (cl L))).run Try.prog w = .ok true w := fun w => by
              have := equalIn_pcl hL hL w
              rwa [decide_eq_true rfl] at this
            have z := zeroPage
            clear hb hm hpg hLL hPg
            go_wp2_with fail
            ((with_reducible refine k3.mono ?_); rintro e w4 ⟨rfl, b4⟩)
            have Hb4 := Lib.hid (Hb.out.trans (b4.mono Hb.out.size))
            clear k3 b4
            go_wp2_with (with_reducible refine wpl_pstore (.tmp 7) (.tmp 52) rfl rfl (PArr.new w4 pzeros_length) rfl hL rfl ?_; intro w5 X5 g5 e5)
            have X5d : PArr w5.drew w4.heap.size L := X5.drew
            have b5 : Below w4.heap.size w4 w5.drew := (((Below.refl _ _).alloc (Nat.le_refl _) _).grown g5 (by simp) (fun k e => by cases e; exact Nat.le_refl _)).drew
            have Hb5 := Lib.hid (Hb4.out.trans (b5.mono Hb4.out.size))
            obtain ⟨_, _, _, y1⟩ := RC.out _ Hb5.out
            have y2 : w5.drew.rangeAt r.g ((8 * j + k) * 258) (bv L) := by
              have h := (R2.out.after Hb5.out).pgs.range (8 * j + k) hq
              rw [HPG.out] at h
              exact h
            obtain ⟨x, hx⟩ : ∃ x, x = w4.heap.size := ⟨_, rfl⟩
            rw [← hx] at X5d ⊢
            obtain ⟨NN, hNN⟩ : ∃ NN : Nat, NN = 8 * M := ⟨_, rfl⟩
            rw [← hNN] at y1
            obtain ⟨y, hy⟩ : ∃ y : Nat, y = 8 * j + k := ⟨_, rfl⟩
            rw [← hy] at y2
            have ww1 : IntKind.i64.wrap (8 * (j : Int)) = 8 * (j : Int) := by rw [IntKind.wrap_i64]; omega
            have ww2 : IntKind.i64.wrap (8 * (j : Int) + (k : Int)) = (y : Int) := by rw [IntKind.wrap_i64]; omega
            have i3 : y < NN := by omega
            clear X5 g5 e5 hx hNN hy Hb4 Hb HPG hq
            have HS : PArr w5.drew x L ∧ w5.drew.cell? ⟨r.c, 1, none⟩ = some (.slice (some ⟨r.g, 0, none⟩) NN NN) ∧ w5.drew.rangeAt r.g (y * 258) (bv L) := ⟨X5d, y1, y2⟩
            refine wp_region_held_drew (S := fun w' => PArr w' x L ∧ w'.cell? ⟨r.c, 1, none⟩ = some (.slice (some ⟨r.g, 0, none⟩) NN NN) ∧ w'.rangeAt r.g (y * 258) (bv L)) (by kernel_rfl) HS (fun _ => ?_)
            refine wpAnyH_take (i := 0) (v := .int .i64 0) rfl (by kernel_rfl) (by kernel_rfl) (by kernel_rfl) (fun _ _ _ h => h) (Or.inl ⟨by kernel_rfl, fun w _ => by go_simp⟩) HS ?_
            refine wpAnyH_take (i := 1) (v := .bool false) rfl (by kernel_rfl) (by kernel_rfl) (by kernel_rfl) (fun _ _ _ h => h) (Or.inl ⟨by kernel_rfl, fun w _ => by go_simp⟩) HS ?_
            refine wpAnyH_take (i := 2) (v := .bool false) rfl (by kernel_rfl) (by kernel_rfl) (by kernel_rfl) (fun _ _ _ h => h) (Or.inl ⟨by kernel_rfl, fun w _ => by go_simp⟩) HS ?_
            refine wpAnyH_take (i := 3) (v := .agg (cl L)) rfl (by kernel_rfl) (by kernel_rfl) (by kernel_rfl) (fun _ _ _ h => h) (yields_pload (g := x) (.tmp 7) (by kernel_rfl) (by kernel_rfl) (by kernel_rfl) (fun _ h => h.1)) HS ?_
            refine wpAnyH_take (i := 4) (v := .pointer (some ⟨r.c, 0, none⟩)) rfl (by kernel_rfl) (by kernel_rfl) (by kernel_rfl) (fun _ _ _ h => h) (Or.inl ⟨by kernel_rfl, fun w _ => by go_simp⟩) HS ?_
            refine wpAnyH_take (i := 5) (v := .pointer (some ⟨r.c, 0, none⟩)) rfl (by kernel_rfl) (by kernel_rfl) (by kernel_rfl) (fun _ _ _ h => h) (Or.inl ⟨by kernel_rfl, fun w _ => by go_simp⟩) HS ?_
            refine wpAnyH_take (i := 6) (v := .pointer (some ⟨r.c, 1, none⟩)) rfl (by kernel_rfl) (by kernel_rfl) (by kernel_rfl) (fun _ _ _ h => h) (Or.inl ⟨by kernel_rfl, fun w _ => by go_simp⟩) HS ?_
            refine wpAnyH_take (i := 7) (v := .slice (some ⟨r.g, 0, none⟩) NN NN) rfl (by kernel_rfl) (by kernel_rfl) (by kernel_rfl) (fun _ _ _ h => h) (yields_one (p := ⟨r.c, 1, none⟩) pages_flat (.tmp 60) (by kernel_rfl) (by kernel_rfl) (by kernel_rfl) (fun _ h => h.2.1)) HS ?_
            refine wpAnyH_take (i := 8) (v := .int .i64 j) rfl (by kernel_rfl) (by kernel_rfl) (by kernel_rfl) (fun _ _ _ h => h) (Or.inl ⟨by kernel_rfl, fun w _ => by go_simp⟩) HS ?_
            refine wpAnyH_take (i := 9) (v := .int .i64 (8 * (j : Int))) rfl (by kernel_rfl) (by kernel_rfl) (by kernel_rfl) (fun _ _ _ h => h) (Or.inl ⟨by kernel_rfl, fun w _ => by go_simp⟩) HS ?_
            refine wpAnyH_take (i := 10) (v := .int .i64 k) rfl (by kernel_rfl) (by kernel_rfl) (by kernel_rfl) (fun _ _ _ h => h) (Or.inl ⟨by kernel_rfl, fun w _ => by go_simp⟩) HS ?_
            refine wpAnyH_take (i := 11) (v := .int .i64 (y : Int)) rfl (by kernel_rfl) (by kernel_rfl) (by kernel_rfl) (fun _ _ _ h => h) (Or.inl ⟨by kernel_rfl, fun w _ => by go_simp⟩) HS ?_
            refine wpAnyH_take (i := 12) (v := .pointer (some ⟨r.g, y * 258, none⟩)) rfl (by kernel_rfl) (by kernel_rfl) (by kernel_rfl) (fun _ _ _ h => h) (Or.inl ⟨by kernel_rfl, fun w _ => by go_simp⟩) HS ?_
            refine wpAnyH_take (i := 13) (v := .agg (cl L)) rfl (by kernel_rfl) (by kernel_rfl) (by kernel_rfl) (fun _ _ _ h => h) (yieldsIf_load_mid (by kernel_rfl) 55 (.tmp 66) (by kernel_rfl) r.g (y * 258) (by kernel_rfl) (bv L) _ (fun _ h => h.2.2) Try.underlying55 rfl (by rw [bv_length, hL]; exact sizePage)) HS ?_
            refine wpAnyH_take (i := 14) (v := .bool false) rfl (by kernel_rfl) (by kernel_rfl) (by kernel_rfl) (fun _ _ _ h => h) (Or.inl ⟨by kernel_rfl, fun w _ => by go_simp⟩) HS ?_
            refine wpAnyH_ready (rs := [15]) (by kernel_rfl) (by simp) (AllReadyH.cons rfl (fun K hK => ?_) AllReadyH.nil)
            go_simp
            refine hK.out _ _ HS (fun _ => ?_)
            clear hK K
            refine wpAnyH_done (by kernel_rfl) ?_ _
            go_wp2_with fail
            exact ⟨⟨k + 1, by omega, by go_num, Hb5.out⟩, by simp [intOf]; omega⟩
          · obtain rfl : k = 8 := by omega
            go_wp2_with fail
            exact ⟨⟨j + 1, by omega, by go_num, Hb.out⟩, by simp [intOf]; omega⟩
      · go_wp2_with fail
        go_loopw [6] (fun i wr => i = .int .i64 0 ∧ Below w2.heap.size w2 wr) (fun i _ => 0)
        case atStart => exact ⟨rfl, Hb9.out⟩
        case round =>
          obtain ⟨rfl, hb⟩ := hrel
          obtain ⟨c2, c3, c4, c1⟩ := RC.out wr hb
          have Hb := Lib.hid hb
          clear hb Hb9
          go_wp2_with fail
          exact ⟨⟨j + 1, by omega, by go_num, Hb.out⟩, by simp [intOf]; omega⟩
    · obtain rfl : j = M := by omega
      have e1 : T.isBad (-1) = false := by unfold Ch.isBad; rw [if_pos (by omega)]
      have e2 : T.isBad (j : Int) = false := by unfold Ch.isBad; rw [if_pos (by rw [HTB.out, ← HM.out]; omega)]
      have kb2 := kb1 (j : Int)
      have kb3 := kb1 (-1)
      rw [e1] at kb3
      rw [e2] at kb2
      clear kb1 kb e1 e2
      go_wp2_with (first | ((with_reducible refine kb3.mono ?_); rintro e w' ⟨rfl, rfl⟩) | ((with_reducible refine kb2.mono ?_); rintro e w' ⟨rfl, rfl⟩))
      go_ret
      obtain ⟨f1, f2⟩ := fin.out _ Hb.out
      exact ⟨rfl, f1, f2⟩
end Go.Proofs.Ytjdegfblacbkoaa
