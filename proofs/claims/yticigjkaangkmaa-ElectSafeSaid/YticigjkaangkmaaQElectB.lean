/- Layer 13: electable. No condition but that a set has 32 bytes. -/
import Derived.Test.YticigjkaangkmaaQElectA
namespace Go.Proofs.Yticigjkaangkmaa
open Go Go.RowKit
theorem zeroChip : ∀ w, (zeroValue 52).run Try.prog w = .ok (.agg (crow EC.zero).toArray) w := fun _ => by kernel_rfl
theorem zero_ok : EC.zero.ok := ⟨by decide⟩
theorem eown_below {w w' : World} {base n : Nat} {e : TypeId} {v : Value} {xs : List Value} (h : w.ownsRow base e 1 v n xs) (hb : Below w.heap.size w w') : w'.ownsRow base e 1 v n xs :=
  h.kept (row := none) ⟨hb.os, hb.tape, hb.output, hb.size, fun k hk _ => hb.block k hk⟩ (by
    cases hq : v.ownBlock with
    | none => exact .inl rfl
    | some q => exact .inr (by simp))
theorem csegSet {cs vs : List Value} (h : cs.length = vs.length) : segSet cs 0 vs = vs := by
  simp [segSet, List.drop_eq_nil_of_le (Nat.le_of_eq h)]
set_option maxRecDepth 100000 in
set_option maxHeartbeats 4000000 in
theorem electable_any (t : VV) {a b : EC} (ha : a.ok) (hb : b.ok) (w : World) :
    Calls Try.prog 31 #[va t, .agg (crow a ++ crow b).toArray] w fun e w' => ∃ A c, e = .returned (.slice A (able t a b 2).length c) ∧ (able t a b 2).length ≤ c ∧ Row w' w'.heap.size A (eiv (able t a b 2)) ∧ Below w.heap.size w w' := by
  have hla := crow_len ha
  have hlb := crow_len hb
  have HIX := Lib.hid (fun (k : Nat) (hk : k < 2) (w : World) => index_pair hla hlb k hk (rc := crow (if k = 0 then a else b)) (by split <;> rfl) w)
  have HLC := Lib.hid (fun (k : Nat) => show (crow (if k = 0 then a else b)).length = 41 by split <;> assumption)
  obtain ⟨rp, hrp⟩ : ∃ rp, crow a ++ crow b = rp := ⟨_, rfl⟩
  have hlp := Lib.hid (show rp.length = 82 by rw [← hrp, List.length_append, hla, hlb])
  rw [hrp] at HIX ⊢
  have zc := zeroChip
  obtain ⟨zr, hzr⟩ : ∃ zr, crow EC.zero = zr := ⟨_, rfl⟩
  have hzl := Lib.hid (show zr.length = 41 by rw [← hzr]; exact crow_len zero_ok)
  rw [hzr] at zc
  have b1 := Lib.hid (((Below.refl w.heap.size w).alloc (Nat.le_refl _) (.cells #[.int .u64 (t.n : Int), .int .i64 t.m, .int .u64 (t.b : Int)] 24)).alloc (by simp) (.cells rp.toArray 68))
  have P1 : Hid (Blk ((w.alloc (.cells #[.int .u64 (t.n : Int), .int .i64 t.m, .int .u64 (t.b : Int)] 24)).alloc (.cells rp.toArray 68)) w.heap.size 24 [.int .u64 (t.n : Int), .int .i64 t.m, .int .u64 (t.b : Int)]) := Lib.hid ((Blk.new w _ [.int .u64 (t.n : Int), .int .i64 t.m, .int .u64 (t.b : Int)]).alloc _)
  have B1 : Hid (Blk ((w.alloc (.cells #[.int .u64 (t.n : Int), .int .i64 t.m, .int .u64 (t.b : Int)] 24)).alloc (.cells rp.toArray 68)) (w.heap.size + 1) 68 rp) := Lib.hid (by
    have h := Blk.new (w.alloc (.cells #[.int .u64 (t.n : Int), .int .i64 t.m, .int .u64 (t.b : Int)] 24)) 68 rp
    rw [World.size_alloc] at h
    exact h)
  clear hla hlb hrp hzr
  go_enter Try.func31, Try.ntmps31
  go_wp2_with (with_reducible refine wpl_seg_load aggPr sizePr (.tmp 3) rfl rfl B1.out 0 rp (by rw [List.drop_zero, List.take_of_length_le (Nat.le_of_eq hlp.out)]) hlp.out rfl ?_)
  obtain ⟨W, hW⟩ : ∃ W, W = (w.alloc (.cells #[.int .u64 (t.n : Int), .int .i64 t.m, .int .u64 (t.b : Int)] 24)).alloc (.cells rp.toArray 68) := ⟨_, rfl⟩
  obtain ⟨gt, hgt⟩ : ∃ gt, gt = w.heap.size := ⟨_, rfl⟩
  obtain ⟨gp, hgp⟩ : ∃ gp, gp = w.heap.size + 1 := ⟨_, rfl⟩
  rw [← hW] at b1 P1 B1 ⊢
  rw [← hgt] at P1
  rw [← hgp]
  rw [← hgt]
  have HGT := Lib.hid hgt
  clear hW hgt hgp B1
  go_loopw [5, 6, 7, 9] (fun v _ _ i wr => ∃ k : Nat, k ≤ 2 ∧ i = .int .i64 k ∧ ∃ X n c', v = .slice X n c' ∧ Hid (n = (able t a b k).length) ∧ Hid (wr.ownsRow W.heap.size 3 1 (.slice X n c') n (eiv (able t a b k))) ∧ Hid (Below W.heap.size W wr)) (fun _ _ _ i _ => 2 - (intOf i).toNat)
  case atStart => exact ⟨0, Nat.zero_le _, rfl, none, 0, 0, rfl, Lib.hid (by rw [able_zero]; rfl), Lib.hid (by rw [able_zero]; exact World.ownsRow_nil W W.heap.size 3 1), Lib.hid (Below.refl _ _)⟩
  case round =>
    obtain ⟨k, hk, rfl, X, n, c', rfl, hn, hO, hb⟩ := hrel
    by_cases hlt : k < 2
    · have hix := HIX.out k hlt
      have HAS := Lib.hid (able_succ t a b k hlt)
      have hnk : n ≤ 2 := by rw [hn.out]; exact able_len t a b k
      have hlc := Lib.hid (HLC.out k)
      have x1 := Lib.hid (crow_1 (if k = 0 then a else b))
      have x2 := Lib.hid (crow_2 (if k = 0 then a else b))
      have x3 := Lib.hid (crow_3 (if k = 0 then a else b))
      have KH := Lib.hid (fun w => holds_any13 (if k = 0 then a else b) w)
      obtain ⟨c, hc⟩ : ∃ c, (if k = 0 then a else b) = c := ⟨_, rfl⟩
      rw [hc] at hix HAS hlc x1 x2 x3 KH
      have HMY := Lib.hid (show EC.may t c (k : Int) = (c.holds && c.n && t.has (k : Int) && decide (t.b ≤ c.e)) from rfl)
      obtain ⟨rc, hrc⟩ : ∃ rc, crow c = rc := ⟨_, rfl⟩
      rw [hrc] at hix hlc x1 x2 x3 KH
      have KS := Lib.hid (fun (W : World) (n : Nat) (hn : W.heap.size = n) => has1_at t (k : Int) W n hn)
      obtain ⟨ch, hch⟩ : ∃ ch, c.holds = ch := ⟨_, rfl⟩
      obtain ⟨cn, hcn⟩ : ∃ cn, c.n = cn := ⟨_, rfl⟩
      obtain ⟨ht, hht⟩ : ∃ ht, t.has (k : Int) = ht := ⟨_, rfl⟩
      rw [hch, hcn, hht] at HMY
      rw [hch] at KH
      rw [hcn] at x2
      rw [hht] at KS
      have N1 := Lib.hid (Blk.new wr 52 zr)
      have nb1 := Lib.hid (hb.out.alloc hb.out.size (.cells zr.toArray 52))
      have nO1 := Lib.hid (hO.out.alloc (.cells zr.toArray 52))
      have HSA := Lib.hid (csegSet (hzl.out.trans hlc.out.symm))
      have HON : Hid (∀ x ∈ rc, x.oneCell' = true) := Lib.hid (by rw [← hrc]; exact crow_one c)
      have HBS := Lib.hid hb.out.size
      have HNE := Lib.hid (fun q (e : (Value.slice X n c').ownBlock = some q) => (hO.out.lt q e).2)
      have HTB := Lib.hid (show ∀ w', Below W.heap.size W w' → w'.cell? ⟨gt, 2, none⟩ = some (.int .u64 (t.b : Int)) from fun w' h => (h.cell (p := ⟨gt, 2, none⟩) P1.out.lt).trans (P1.out.cell 2))
      have HPV := Lib.hid (show ∀ w', Below W.heap.size W w' → Blk w' gt 24 [.int .u64 (t.n : Int), .int .i64 t.m, .int .u64 (t.b : Int)] from fun w' h => P1.out.below h P1.out.lt)
      clear hc hrc hch hcn hht hO hb
      go_wp2_with (first
        | ((with_reducible refine wpl_seg_store sizeC (.tmp 7) (.tmp 12) rfl rfl N1.out 0 rc hlc.out (by rw [hzl.out]; exact Nat.le_refl _) HON.out rfl rfl _ HSA.out ?_); intro w5 R5 g5 e5; have C5 := Lib.hid R5; have b5 := Lib.hid (nb1.out.grown g5 nb1.out.size (fun q e => by cases e; exact HBS.out)); have O5 := Lib.hid (nO1.out.kept g5 (Or.inr (fun q => Nat.lt_irrefl _ (HNE.out _ q)))); clear R5 e5 g5)
        | (with_reducible refine wpl_cload (.tmp 7) rfl rfl C5.out 0 (all41 hlc.out) hlc.out rfl ?_))
      ((with_reducible refine (KH.out _).mono ?_); rintro e6 w6 ⟨rfl, h6⟩)
      have C6 := Lib.hid (C5.out.after h6)
      have b6 := Lib.hid (b5.out.trans (h6.mono b5.out.size))
      have O6 := Lib.hid (eown_below O5.out h6)
      obtain ⟨gc, hgc⟩ : ∃ gc, gc = wr.heap.size := ⟨_, rfl⟩
      rw [← hgc] at C6 ⊢
      have y2 := (C6.out.cell 2).trans x2.out
      clear h6 O5 C5 b5 N1 nb1 nO1 HNE HBS hgc
      cases ch
      · have HY : ¬ EC.may t c (k : Int) = true := by rw [HMY.out]; simp
        go_wp2_with fail
        go_roundw
        case rel => exact ⟨k + 1, by omega, by go_num, X, n, c', rfl, Lib.hid (by rw [HAS.out, if_neg HY, List.append_nil]; exact hn.out), Lib.hid (by rw [HAS.out, if_neg HY, List.append_nil]; exact O6.out), b6⟩
        case measure => simp [intOf]; omega
      cases cn
      · have HY : ¬ EC.may t c (k : Int) = true := by rw [HMY.out]; simp
        go_wp2_with fail
        go_roundw
        case rel => exact ⟨k + 1, by omega, by go_num, X, n, c', rfl, Lib.hid (by rw [HAS.out, if_neg HY, List.append_nil]; exact hn.out), Lib.hid (by rw [HAS.out, if_neg HY, List.append_nil]; exact O6.out), b6⟩
        case measure => simp [intOf]; omega
      go_wp2_with (with_reducible refine wpl_vload (.tmp 2) rfl rfl (HPV.out _ b6.out) rfl ?_)
      ((with_reducible refine (KS.out w6 _ rfl).mono ?_); rintro e7 w7 ⟨rfl, h7⟩)
      have C7 := Lib.hid (C6.out.after h7)
      have b7 := Lib.hid (b6.out.trans (h7.mono b6.out.size))
      have O7 := Lib.hid (eown_below O6.out h7)
      have y3 := (C7.out.cell 3).trans x3.out
      have y4 := HTB.out _ b7.out
      clear h7 O6 C6 b6 y2
      cases ht
      · have HY : ¬ EC.may t c (k : Int) = true := by rw [HMY.out]; simp
        go_wp2_with fail
        go_roundw
        case rel => exact ⟨k + 1, by omega, by go_num, X, n, c', rfl, Lib.hid (by rw [HAS.out, if_neg HY, List.append_nil]; exact hn.out), Lib.hid (by rw [HAS.out, if_neg HY, List.append_nil]; exact O7.out), b7⟩
        case measure => simp [intOf]; omega
      by_cases hle : t.b ≤ c.e
      · have HY : EC.may t c (k : Int) = true := by rw [HMY.out]; simp [hle]
        have OA := Lib.hid (O7.out.alloc (.cells #[.int .i64 (k : Int)] 3))
        have bA := Lib.hid (b7.out.alloc b7.out.size (.cells #[.int .i64 (k : Int)] 3))
        have hrow := Lib.hid (show Row (w7.alloc (.cells #[.int .i64 (k : Int)] 3)) (w7.heap.size + 1) (some ⟨w7.heap.size, 0, none⟩) (eiv [k]) from Row.new w7 #[.int .i64 (k : Int)] 3 (0, 0) w7.heap.size rfl (Nat.lt_succ_self _))
        have d1 : decide ((t.b : Int) ≤ (c.e : Int)) = true := by simp; exact hle
        go_wp2_with (at_builtin; (refine wpl_append_vals eintTys rfl (.tmp 33) (.tmp 35) rfl n rfl OA.out (w7.heap.size + 1) _ _ (eiv [k]) 1 rfl rfl hrow.out (eiv_one _) (by omega) (by simp only [maxLen]; omega) bA.out.size (n + 1) rfl ?_); intro A4 c4 w8 O4 g4 e4; have Q4 := Lib.hid O4; have T4 := Lib.hid (bA.out.grown g4 bA.out.size (fun q e => (OA.out.lt q e).1)); clear O4 g4 e4)
        go_roundw
        case rel => exact ⟨k + 1, by omega, by go_num, A4, n + 1, c4, rfl, Lib.hid (by rw [HAS.out, if_pos HY, List.length_append, hn.out]; rfl), Lib.hid (by rw [HAS.out, if_pos HY]; unfold eiv at *; rw [List.map_append]; exact Q4.out), T4⟩
        case measure => simp [intOf]; omega
      · have HY : ¬ EC.may t c (k : Int) = true := by rw [HMY.out]; simp [hle]
        have d1 : decide ((t.b : Int) ≤ (c.e : Int)) = false := by simp; omega
        go_wp2_with fail
        go_roundw
        case rel => exact ⟨k + 1, by omega, by go_num, X, n, c', rfl, Lib.hid (by rw [HAS.out, if_neg HY, List.append_nil]; exact hn.out), Lib.hid (by rw [HAS.out, if_neg HY, List.append_nil]; exact O7.out), b7⟩
        case measure => simp [intOf]; omega
    · obtain rfl : k = 2 := by omega
      go_wp2
      go_ret
      have hn2 := hn.out
      subst hn2
      obtain ⟨_, _, e', hcap, _⟩ := ownsRow_shape hO.out
      obtain ⟨_, _, rfl⟩ := Value.slice.inj e'
      exact ⟨X, c', rfl, hcap, ownsRow_row hO.out, b1.out.trans (hb.out.mono b1.out.size)⟩
end Go.Proofs.Yticigjkaangkmaa

