/- Several texts of the proof, joined: what each has is said at its head. -/
import Derived.Test.YtdiocjneakfdgaaGreatDoorQLogD
import Derived.Deep.Slices
import Derived.Deep.Fields
import Derived.Maps.AppendAt
import Derived.Test.YtdiocjneakfdgaaGreatDoorQLogB
import Derived.OrdersHeld
import Derived.OrdersIn
import Derived.Deep.RegionHeld
/- A log's Get. Condition: the log is there; the place is on its disk. -/
namespace Go.Proofs.YtdiocjneakfdgaaGreatDoor
open Go.RowKit
/-- what Get tells of a page -/
def getM (p : List UInt8) : UInt8 × List UInt8 × Nat × Nat := if (FM.readM p).2.2.2 ≠ 0 then (0, [], 0, (FM.readM p).2.2.2) else if (FM.readM p).1 = 2 ∨ (FM.readM p).1 = 3 then (0, [], 0, 20) else FM.readM p
section
variable {w : World} {g h d t : Nat} {a : At} {X : DS} {N C : Nat} {Bs : List LB} {num : Nat} {os : List Nat}
theorem bytes_nil' (w : World) (B : Nat) : Bytes w B (.slice none 0 0) [] := ⟨none, 0, rfl, Nat.le_refl _, by simp [maxLen], Row.nil⟩
theorem results_tmp4' {fn : Func} {t u v x : Tmp} (h : fn.results = #[.tmp t, .tmp u, .tmp v, .tmp x]) (tmps : Array Value) (P : Program) (w : World) :
    (results fn tmps).run P w = .ok (.tuple #[tmps.getD t undef, tmps.getD u undef, tmps.getD v undef, tmps.getD x undef]) w := by
  simp [results, h]
set_option maxRecDepth 100000 in
set_option maxHeartbeats 8000000 in
theorem get_any (l : Lg w g h d t a X N C Bs num) {x k : Nat} (hx : x < N - 6) (hk : k < 8) :
    Calls Tryz.prog 30 #[.pointer (some ⟨g, 0, none⟩), .agg (plc x k).toArray] w fun e w' => ∃ v, e = .returned (.tuple #[.int .u8 (((getM ((X.blk x).pg.getD k [])).1.toNat : Nat) : Int), v, .int .i64 (((getM ((X.blk x).pg.getD k [])).2.2.1 : Nat) : Int), .int .i64 (((getM ((X.blk x).pg.getD k [])).2.2.2 : Nat) : Int)]) ∧ Bytes w' w'.heap.size v (getM ((X.blk x).pg.getD k [])).2.1 ∧ Below w.heap.size w w' := by
  show Calls Tryz.prog 30 #[.pointer (some ⟨g, 0, none⟩), .agg #[.int .i64 (x : Int), .int .i64 (k : Int)]] w _
  have z := zeroPage
  have b1 := Lib.hid ((Below.refl w.heap.size w).alloc (Nat.le_refl _) (.cells #[.int .i64 (x : Int), .int .i64 (k : Int)] 44))
  have L1 := Lib.hid (l.after b1.out)
  have hlg := Lib.hid l.gb.lt
  have HG0 := Lib.hid l.cells.1
  have KR := Lib.hid (fun (W : World) (hl : Lg W g h d t a X N C Bs num) => hl.dk.read hx hk)
  have HPL := Lib.hid (l.dk.page hx hk)
  have HTab := Lib.hid l.dk.tab
  have R1 := Lib.hid (show Blk (w.alloc (.cells #[.int .i64 (x : Int), .int .i64 (k : Int)] 44)) w.heap.size 44 (plc x k) from Blk.new w 44 (plc x k))
  obtain ⟨p, hp⟩ : ∃ p, (X.blk x).pg.getD k [] = p := ⟨_, rfl⟩
  rw [hp] at KR HPL ⊢
  have hbl := readM_short p
  have HG := Lib.hid (show getM p = if (FM.readM p).2.2.2 ≠ 0 then (0, [], 0, (FM.readM p).2.2.2) else if (FM.readM p).1 = 2 ∨ (FM.readM p).1 = 3 then (0, [], 0, 20) else FM.readM p from rfl)
  have HEta := Lib.hid (show FM.readM p = ((FM.readM p).1, (FM.readM p).2.1, (FM.readM p).2.2.1, (FM.readM p).2.2.2) from rfl)
  have KF := Lib.hid (fun (W : World) (ht : Tab W) => read_any p HPL.out W ht)
  obtain ⟨rk, hrk⟩ : ∃ rk, (FM.readM p).1 = rk := ⟨_, rfl⟩
  obtain ⟨rb, hrb⟩ : ∃ rb, (FM.readM p).2.1 = rb := ⟨_, rfl⟩
  obtain ⟨rm, hrm⟩ : ∃ rm, (FM.readM p).2.2.1 = rm := ⟨_, rfl⟩
  obtain ⟨re, hre⟩ : ∃ re, (FM.readM p).2.2.2 = re := ⟨_, rfl⟩
  have HG2 := Lib.hid (show getM p = if re ≠ 0 then (0, [], 0, re) else if rk = 2 ∨ rk = 3 then (0, [], 0, 20) else (rk, rb, rm, re) by rw [HG.out, HEta.out, hrk, hrb, hrm, hre])
  rw [hrk, hrb, hrm, hre] at KF
  rw [hrb] at hbl
  have HBL := Lib.hid hbl
  clear l hx hk hp hrk hrb hrm hre hbl HG HEta
  go_enter Tryz.func30, Tryz.ntmps30
  go_wp2_with fail
  obtain ⟨V, hV⟩ : ∃ V, w.alloc (.cells #[.int .i64 (x : Int), .int .i64 (k : Int)] 44) = V := ⟨_, rfl⟩
  obtain ⟨s, hs⟩ : ∃ s, w.heap.size = s := ⟨_, rfl⟩
  have HS := Lib.hid hs
  rw [hV] at b1 L1 R1 ⊢
  rw [hs] at R1 ⊢
  obtain ⟨q0, _, _⟩ := L1.out.cells
  have HCG := Lib.hid (show ∀ w', Below V.heap.size V w' → w'.cell? ⟨g, 0, none⟩ = some (.pointer (some ⟨d, 0, none⟩)) from fun w' hb => (hb.cell (p := ⟨g, 0, none⟩) (by have h1 := hlg.out; have h2 := b1.out.size; show g < V.heap.size; omega)).trans q0)
  have HCX := Lib.hid (show ∀ w', Below V.heap.size V w' → w'.cell? ⟨s, 0, none⟩ = some (.int .i64 (x : Int)) from fun w' hb => (R1.out.below hb R1.out.lt).cell 0)
  have HCK := Lib.hid (show ∀ w', Below V.heap.size V w' → w'.cell? ⟨s, 1, none⟩ = some (.int .i64 (k : Int)) from fun w' hb => (R1.out.below hb R1.out.lt).cell 1)
  have S0 : Below V.heap.size V V.drew := (Below.refl _ _).drew
  clear hV hs
  refine wp_region_held_drew (S := (fun w' => Below V.heap.size V w')) (by kernel_rfl) S0 (fun _ => ?_)
  refine wpAnyH_take (i := 0) (v := .pointer (some ⟨g, 0, none⟩)) rfl (by kernel_rfl) (by kernel_rfl) (by kernel_rfl) (fun _ _ _ h => h) (Or.inl ⟨by kernel_rfl, fun w _ => by go_simp⟩) S0 ?_
  refine wpAnyH_take (i := 1) (v := .pointer (some ⟨g, 0, none⟩)) rfl (by kernel_rfl) (by kernel_rfl) (by kernel_rfl) (fun _ _ _ h => h) (Or.inl ⟨by kernel_rfl, fun w _ => by go_simp⟩) S0 ?_
  refine wpAnyH_take (i := 2) (v := .pointer (some ⟨g, 0, none⟩)) rfl (by kernel_rfl) (by kernel_rfl) (by kernel_rfl) (fun _ _ _ h => h) (Or.inl ⟨by kernel_rfl, fun w _ => by go_simp⟩) S0 ?_
  refine wpAnyH_take (i := 3) (v := .pointer (some ⟨d, 0, none⟩)) rfl (by kernel_rfl) (by kernel_rfl) (by kernel_rfl) (fun _ _ _ h => h) (yields_one (ty := 29) (fun w => by kernel_rfl) (.tmp 16) (by kernel_rfl) (by kernel_rfl) (by kernel_rfl) HCG.out) S0 ?_
  refine wpAnyH_take (i := 4) (v := .pointer (some ⟨s, 0, none⟩)) rfl (by kernel_rfl) (by kernel_rfl) (by kernel_rfl) (fun _ _ _ h => h) (Or.inl ⟨by kernel_rfl, fun w _ => by go_simp⟩) S0 ?_
  refine wpAnyH_take (i := 5) (v := .int .i64 (x : Int)) rfl (by kernel_rfl) (by kernel_rfl) (by kernel_rfl) (fun _ _ _ h => h) (yields_one (ty := 3) (fun w => by kernel_rfl) (.tmp 18) (by kernel_rfl) (by kernel_rfl) (by kernel_rfl) HCX.out) S0 ?_
  refine wpAnyH_take (i := 6) (v := .pointer (some ⟨s, 1, none⟩)) rfl (by kernel_rfl) (by kernel_rfl) (by kernel_rfl) (fun _ _ _ h => h) (Or.inl ⟨by kernel_rfl, fun w _ => by go_simp⟩) S0 ?_
  refine wpAnyH_take (i := 7) (v := .int .i64 (k : Int)) rfl (by kernel_rfl) (by kernel_rfl) (by kernel_rfl) (fun _ _ _ h => h) (yields_one (ty := 3) (fun w => by kernel_rfl) (.tmp 20) (by kernel_rfl) (by kernel_rfl) (by kernel_rfl) HCK.out) S0 ?_
  refine wpAnyH_ready (rs := [8, 12]) (by kernel_rfl) (by simp) (AllReadyH.cons rfl (fun K hK => ?_) (AllReadyH.cons rfl (fun K hK => ?_) AllReadyH.nil))
  · go_simp
    ((with_reducible refine (KR.out _ (L1.out.after (Below.refl _ _).drew)).mono ?_); rintro e w5 ⟨rfl, b5'⟩)
    have S5 : Below V.heap.size V w5 := (Below.refl _ V).drew.trans b5'
    refine hK.out _ _ S5 (fun _ => ?_)
    clear hK K b5' KR
    refine wpAnyH_take (i := 9) (v := .tuple #[.agg (cl p), .int .i64 0]) rfl (by kernel_rfl) (by kernel_rfl) (by kernel_rfl) (fun _ _ _ h => h) (Or.inl ⟨by kernel_rfl, fun w _ => by go_simp⟩) S5 ?_
    refine wpAnyH_take (i := 10) (v := .agg (cl p)) rfl (by kernel_rfl) (by kernel_rfl) (by kernel_rfl) (fun _ _ _ h => h) (Or.inl ⟨by kernel_rfl, fun w _ => by go_simp⟩) S5 ?_
    refine wpAnyH_take (i := 11) (v := .int .i64 0) rfl (by kernel_rfl) (by kernel_rfl) (by kernel_rfl) (fun _ _ _ h => h) (Or.inl ⟨by kernel_rfl, fun w _ => by go_simp⟩) S5 ?_
    refine wpAnyH_ready (rs := [12]) (by kernel_rfl) (by simp) (AllReadyH.cons rfl (fun K hK => ?_) AllReadyH.nil)
    go_simp
    have SP : Below V.heap.size V (w5.alloc (.cells (cl pzeros) 92)) := S5.alloc S5.size _
    refine hK.out _ _ SP (fun _ => ?_)
    clear hK K
    have NP := Lib.hid (PArr.new w5 pzeros_length)
    have BP := Lib.hid (b1.out.trans (SP.mono b1.out.size))
    have HQ := Lib.hid (show w.heap.size ≤ w5.heap.size from Nat.le_trans b1.out.size S5.size)
    have HQV := Lib.hid S5.size
    refine wpAnyH_ready (rs := [13]) (by kernel_rfl) (by simp) (AllReadyH.cons rfl (fun K hK => ?_) AllReadyH.nil)
    rw [if_pos (by kernel_rfl)]
    refine op_pstore (.tmp 8) (.tmp 23) (by kernel_rfl) NP.out (by kernel_rfl) HPL.out (by kernel_rfl) ?_
    intro w6 N6 g6
    have B6 := Lib.hid (BP.out.grown g6 BP.out.size (fun k e => by cases e; exact HQ.out))
    have S7 : Below V.heap.size V w6 := SP.grown g6 SP.size (fun k e => by cases e; exact HQV.out)
    refine hK.out _ _ S7 (fun _ => ?_)
    clear hK K
    refine wpAnyH_take (i := 14) (v := .int .i64 0) rfl (by kernel_rfl) (by kernel_rfl) (by kernel_rfl) (fun _ _ _ h => h) (Or.inl ⟨by kernel_rfl, fun w _ => by go_simp⟩) S7 ?_
    refine wpAnyH_done (by kernel_rfl) ?_ _
    go_wp2_with (first
      | (with_reducible refine wpl_pload (.tmp 8) rfl rfl N6 rfl ?_)
      | (go_at_call 53; fail))
    ((with_reducible refine (KF.out _ (HTab.out.below B6.out HTab.out.lt)).mono ?_); rintro e w7 ⟨vb, rfl, hvb, b7⟩)
    have B7 := Lib.hid (B6.out.trans (b7.mono B6.out.size))
    have HVB := Lib.hid hvb
    clear KF b7 hvb
    by_cases h1 : re = 0
    · subst h1
      by_cases h2 : rk = 2
      · subst h2
        have HR := Lib.hid (show getM p = (0, [], 0, 20) by rw [HG2.out, if_neg (by simp), if_pos (Or.inl rfl)])
        clear HG2
        have d2 : ((((2 : UInt8).toNat : Nat) : Int) == 2) = true := rfl
        go_wp2
        refine bodyPost_ret (results_tmp4' rfl _ _ _) rfl ?_
        rw [HR.out]
        exact ⟨_, rfl, bytes_nil' _ _, B7.out⟩
      · by_cases h3 : rk = 3
        · subst h3
          have HR := Lib.hid (show getM p = (0, [], 0, 20) by rw [HG2.out, if_neg (by simp), if_pos (Or.inr rfl)])
          clear HG2
          have d2 : ((((3 : UInt8).toNat : Nat) : Int) == 2) = false := rfl
          have d3 : ((((3 : UInt8).toNat : Nat) : Int) == 3) = true := rfl
          go_wp2
          refine bodyPost_ret (results_tmp4' rfl _ _ _) rfl ?_
          rw [HR.out]
          exact ⟨_, rfl, bytes_nil' _ _, B7.out⟩
        · have HR := Lib.hid (show getM p = (rk, rb, rm, 0) by rw [HG2.out, if_neg (by simp), if_neg (by rintro (q | q); exact h2 q; exact h3 q)])
          have d2 : (((rk.toNat : Nat) : Int) == 2) = false := by rw [beq_eq_false_iff_ne]; intro q; exact h2 (UInt8.toNat_inj.1 (by show rk.toNat = 2; omega))
          have d3 : (((rk.toNat : Nat) : Int) == 3) = false := by rw [beq_eq_false_iff_ne]; intro q; exact h3 (UInt8.toNat_inj.1 (by show rk.toNat = 3; omega))
          obtain ⟨kn, hkn⟩ : ∃ kn, rk.toNat = kn := ⟨_, rfl⟩
          have HKN := Lib.hid hkn
          rw [hkn] at d2 d3 ⊢
          clear HG2 hkn h2 h3
          go_wp2
          refine bodyPost_ret (results_tmp4' rfl _ _ _) rfl ?_
          rw [HR.out, ← HKN.out]
          exact ⟨vb, rfl, HVB.out, B7.out⟩
    · have HR := Lib.hid (show getM p = (0, [], 0, re) by rw [HG2.out, if_pos h1])
      have d1 : (((re : Nat) : Int) != 0) = true := by simp; omega
      clear HG2
      go_wp2
      refine bodyPost_ret (results_tmp4' rfl _ _ _) rfl ?_
      rw [HR.out]
      exact ⟨_, rfl, bytes_nil' _ _, B7.out⟩
  · go_simp
    have S5 : Below V.heap.size V (V.alloc (.cells (cl pzeros) 92)).drew := ((Below.refl _ V).alloc (Nat.le_refl _) _).drew
    refine hK.out _ _ S5 (fun _ => ?_)
    clear hK K
    have NP0 := Lib.hid (show PArr (V.alloc (.cells (cl pzeros) 92)).drew V.heap.size pzeros from PArr.new V pzeros_length)
    refine wpAnyH_ready (rs := [8]) (by kernel_rfl) (by simp) (AllReadyH.cons rfl (fun K hK => ?_) AllReadyH.nil)
    go_simp
    ((with_reducible refine (KR.out _ (L1.out.after S5)).mono ?_); rintro e w5 ⟨rfl, b5'⟩)
    have SP : Below V.heap.size V w5 := S5.trans (b5'.mono S5.size)
    have NP := Lib.hid (NP0.out.after b5')
    have BP := Lib.hid (b1.out.trans (SP.mono b1.out.size))
    have HQ := Lib.hid b1.out.size
    have HQV := Lib.hid (Nat.le_refl V.heap.size)
    refine hK.out _ _ SP (fun _ => ?_)
    clear hK K b5' KR NP0
    refine wpAnyH_take (i := 9) (v := .tuple #[.agg (cl p), .int .i64 0]) rfl (by kernel_rfl) (by kernel_rfl) (by kernel_rfl) (fun _ _ _ h => h) (Or.inl ⟨by kernel_rfl, fun w _ => by go_simp⟩) SP ?_
    refine wpAnyH_take (i := 10) (v := .agg (cl p)) rfl (by kernel_rfl) (by kernel_rfl) (by kernel_rfl) (fun _ _ _ h => h) (Or.inl ⟨by kernel_rfl, fun w _ => by go_simp⟩) SP ?_
    refine wpAnyH_take (i := 11) (v := .int .i64 0) rfl (by kernel_rfl) (by kernel_rfl) (by kernel_rfl) (fun _ _ _ h => h) (Or.inl ⟨by kernel_rfl, fun w _ => by go_simp⟩) SP ?_
    refine wpAnyH_ready (rs := [13]) (by kernel_rfl) (by simp) (AllReadyH.cons rfl (fun K hK => ?_) AllReadyH.nil)
    rw [if_pos (by kernel_rfl)]
    refine op_pstore (.tmp 8) (.tmp 23) (by kernel_rfl) NP.out (by kernel_rfl) HPL.out (by kernel_rfl) ?_
    intro w6 N6 g6
    have B6 := Lib.hid (BP.out.grown g6 BP.out.size (fun k e => by cases e; exact HQ.out))
    have S7 : Below V.heap.size V w6 := SP.grown g6 SP.size (fun k e => by cases e; exact HQV.out)
    refine hK.out _ _ S7 (fun _ => ?_)
    clear hK K
    refine wpAnyH_take (i := 14) (v := .int .i64 0) rfl (by kernel_rfl) (by kernel_rfl) (by kernel_rfl) (fun _ _ _ h => h) (Or.inl ⟨by kernel_rfl, fun w _ => by go_simp⟩) S7 ?_
    refine wpAnyH_done (by kernel_rfl) ?_ _
    go_wp2_with (first
      | (with_reducible refine wpl_pload (.tmp 8) rfl rfl N6 rfl ?_)
      | (go_at_call 53; fail))
    ((with_reducible refine (KF.out _ (HTab.out.below B6.out HTab.out.lt)).mono ?_); rintro e w7 ⟨vb, rfl, hvb, b7⟩)
    have B7 := Lib.hid (B6.out.trans (b7.mono B6.out.size))
    have HVB := Lib.hid hvb
    clear KF b7 hvb
    by_cases h1 : re = 0
    · subst h1
      by_cases h2 : rk = 2
      · subst h2
        have HR := Lib.hid (show getM p = (0, [], 0, 20) by rw [HG2.out, if_neg (by simp), if_pos (Or.inl rfl)])
        clear HG2
        have d2 : ((((2 : UInt8).toNat : Nat) : Int) == 2) = true := rfl
        go_wp2
        refine bodyPost_ret (results_tmp4' rfl _ _ _) rfl ?_
        rw [HR.out]
        exact ⟨_, rfl, bytes_nil' _ _, B7.out⟩
      · by_cases h3 : rk = 3
        · subst h3
          have HR := Lib.hid (show getM p = (0, [], 0, 20) by rw [HG2.out, if_neg (by simp), if_pos (Or.inr rfl)])
          clear HG2
          have d2 : ((((3 : UInt8).toNat : Nat) : Int) == 2) = false := rfl
          have d3 : ((((3 : UInt8).toNat : Nat) : Int) == 3) = true := rfl
          go_wp2
          refine bodyPost_ret (results_tmp4' rfl _ _ _) rfl ?_
          rw [HR.out]
          exact ⟨_, rfl, bytes_nil' _ _, B7.out⟩
        · have HR := Lib.hid (show getM p = (rk, rb, rm, 0) by rw [HG2.out, if_neg (by simp), if_neg (by rintro (q | q); exact h2 q; exact h3 q)])
          have d2 : (((rk.toNat : Nat) : Int) == 2) = false := by rw [beq_eq_false_iff_ne]; intro q; exact h2 (UInt8.toNat_inj.1 (by show rk.toNat = 2; omega))
          have d3 : (((rk.toNat : Nat) : Int) == 3) = false := by rw [beq_eq_false_iff_ne]; intro q; exact h3 (UInt8.toNat_inj.1 (by show rk.toNat = 3; omega))
          obtain ⟨kn, hkn⟩ : ∃ kn, rk.toNat = kn := ⟨_, rfl⟩
          have HKN := Lib.hid hkn
          rw [hkn] at d2 d3 ⊢
          clear HG2 hkn h2 h3
          go_wp2
          refine bodyPost_ret (results_tmp4' rfl _ _ _) rfl ?_
          rw [HR.out, ← HKN.out]
          exact ⟨vb, rfl, HVB.out, B7.out⟩
    · have HR := Lib.hid (show getM p = (0, [], 0, re) by rw [HG2.out, if_pos h1])
      have d1 : (((re : Nat) : Int) != 0) = true := by simp; omega
      clear HG2
      go_wp2
      refine bodyPost_ret (results_tmp4' rfl _ _ _) rfl ?_
      rw [HR.out]
      exact ⟨_, rfl, bytes_nil' _ _, B7.out⟩
end
end Go.Proofs.YtdiocjneakfdgaaGreatDoor

/- The places of a segment's records. Condition: the log is there. -/
namespace Go.Proofs.YtdiocjneakfdgaaGreatDoor
open Go.RowKit
def goodP (p : List UInt8) : Bool := decide ((getM p).2.2.2 = 0) && decide ((getM p).1 ≠ 1 ∧ (getM p).1 ≠ 2 ∧ (getM p).1 ≠ 3)
theorem own_shape {w : World} {base s : Nat} {e : TypeId} {v : Value} {n : Nat} {xs : List Value} (h : w.ownsRow base e s v n xs) : ∃ A c, v = .slice A n c ∧ n ≤ c ∧ c ≤ maxLen := by
  rcases h.2 with ⟨rfl, h0⟩ | ⟨g, cap, cur, rfl, _, _, hn, hcap, _⟩
  · exact ⟨none, 0, by rw [h0], by omega, by simp [maxLen]⟩
  · exact ⟨_, cap, rfl, hn, hcap⟩
/-- the pages below k that hold records -/
def recTo (pg : Nat → List UInt8) : Nat → List Nat
  | 0 => []
  | k + 1 => if 2 ≤ k ∧ goodP (pg k) = true then recTo pg k ++ [k] else recTo pg k
theorem recTo_le (pg : Nat → List UInt8) : ∀ k, (recTo pg k).length ≤ k
  | 0 => Nat.le_refl _
  | k + 1 => by
    have := recTo_le pg k
    unfold recTo
    split
    · rw [List.length_append, List.length_singleton]; omega
    · omega
theorem recTo_two (pg : Nat → List UInt8) : recTo pg 2 = [] := by
  show (if 2 ≤ 1 ∧ _ then _ else if 2 ≤ 0 ∧ _ then _ else []) = []
  rw [if_neg (fun q => by have := q.1; omega), if_neg (fun q => by have := q.1; omega)]
def plcs (x : Nat) (ks : List Nat) : List Value := ks.flatMap (plc x)
theorem plcs_append (x : Nat) (a b : List Nat) : plcs x (a ++ b) = plcs x a ++ plcs x b := by simp [plcs]
theorem plcs_one (x k : Nat) : plcs x [k] = plc x k := by simp [plcs]
theorem plc_new (w : World) (x k : Nat) : ∀ j u, (plc x k)[j]? = some u → (w.alloc (.cells #[.int .i64 (x : Int), .int .i64 (k : Int)] 44)).cell? ((⟨w.heap.size, 0, none⟩ : Addr).add j) = some u := fun j u hu => by
  have ha : (⟨w.heap.size, 0, none⟩ : Addr).add j = ⟨w.heap.size, j, none⟩ := by unfold Addr.add; split <;> simp_all
  rw [ha]
  exact ((show Blk (w.alloc (.cells #[.int .i64 (x : Int), .int .i64 (k : Int)] 44)) w.heap.size 44 (plc x k) from Blk.new w 44 (plc x k)).cell j).trans hu
theorem infoPl : (Tryz.prog.info? 44).map (fun i => (i.zero, i.size, i.bytes)) = some (some (.agg #[.int .i64 0, .int .i64 0]), 2, 16) := by kernel_rfl
section
variable {w : World} {g h d t : Nat} {a : At} {X : DS} {N C : Nat} {Bs : List LB} {num : Nat} {os : List Nat}
set_option maxRecDepth 100000 in
set_option maxHeartbeats 8000000 in
theorem records_any (l : Lg w g h d t a X N C Bs num) {x : Nat} (hx : x < N - 6) :
    Calls Tryz.prog 24 #[.pointer (some ⟨g, 0, none⟩), .int .i64 (x : Int)] w fun e w' => ∃ A n c, e = .returned (.slice A n c) ∧ n = (recTo (fun k => (X.blk x).pg.getD k []) 8).length ∧ w'.ownsRow w.heap.size 44 2 (.slice A n c) n (plcs x (recTo (fun k => (X.blk x).pg.getD k []) 8)) ∧ Below w.heap.size w w' := by
  obtain ⟨i0, hi, hz0, hz1, hz2⟩ := info_parts infoPl
  have HL := Lib.hid l
  have HX := Lib.hid hx
  obtain ⟨pg, hpg⟩ : ∃ pg : Nat → List UInt8, (fun k => (X.blk x).pg.getD k []) = pg := ⟨_, rfl⟩
  have HG := Lib.hid (fun (w' : World) (hl : Lg w' g h d t a X N C Bs num) (k : Nat) (hk : k < 8) => show Calls Tryz.prog 30 #[.pointer (some ⟨g, 0, none⟩), .agg #[.int .i64 (x : Int), .int .i64 (k : Int)]] w' fun e w2 => ∃ v, e = .returned (.tuple #[.int .u8 (((getM (pg k)).1.toNat : Nat) : Int), v, .int .i64 (((getM (pg k)).2.2.1 : Nat) : Int), .int .i64 (((getM (pg k)).2.2.2 : Nat) : Int)]) ∧ Bytes w2 w2.heap.size v (getM (pg k)).2.1 ∧ Below w'.heap.size w' w2 from by rw [← hpg]; exact get_any hl hx hk)
  rw [hpg]
  clear l hx hpg
  go_enter Tryz.func24, Tryz.ntmps24
  go_wp2
  go_loopw [5, 6, 7, 8, 9, 10, 11] (fun v5 v6 _ _ _ _ _ wr => ∃ k : Nat, v6 = .int .i64 (k : Int) ∧ 2 ≤ k ∧ k ≤ 8 ∧ ∃ A n c, v5 = .slice A n c ∧ Hid (n = (recTo pg k).length) ∧ Hid (wr.ownsRow w.heap.size 44 2 (.slice A n c) n (plcs x (recTo pg k))) ∧ Hid (Below w.heap.size w wr)) (fun _ v6 _ _ _ _ _ _ => 8 - (intOf v6).toNat)
  case atStart => exact ⟨2, rfl, by omega, by omega, none, 0, 0, rfl, Lib.hid (by rw [recTo_two]; rfl), Lib.hid (by rw [recTo_two]; exact World.ownsRow_nil w w.heap.size _ 2), Lib.hid (Below.refl _ _)⟩
  case round =>
    obtain ⟨k, rfl, hk2, hk8, A, n, c, rfl, hn, hO, hb⟩ := hrel
    by_cases hlt : k < 8
    · have hsl := recTo_le pg k
      have hn8 : n ≤ 8 := by rw [hn.out]; omega
      have HS := Lib.hid (show recTo pg (k + 1) = if 2 ≤ k ∧ goodP (pg k) = true then recTo pg k ++ [k] else recTo pg k from rfl)
      have NA := (show Blk (wr.alloc (.cells #[.int .i64 0, .int .i64 0] 44)) wr.heap.size 44 (plc 0 0) from Blk.new wr 44 (plc 0 0))
      have ba := Lib.hid ((Below.refl wr.heap.size wr).alloc (Nat.le_refl _) (.cells #[.int .i64 0, .int .i64 0] 44))
      have HGk := Lib.hid (fun (w' : World) (hl : Lg w' g h d t a X N C Bs num) => HG.out w' hl k hlt)
      have HGD := Lib.hid (show goodP (pg k) = (decide ((getM (pg k)).2.2.2 = 0) && decide ((getM (pg k)).1 ≠ 1 ∧ (getM (pg k)).1 ≠ 2 ∧ (getM (pg k)).1 ≠ 3)) from rfl)
      obtain ⟨gk, hgk⟩ : ∃ gk, (getM (pg k)).1 = gk := ⟨_, rfl⟩
      obtain ⟨gb, hgb⟩ : ∃ gb, (getM (pg k)).2.1 = gb := ⟨_, rfl⟩
      obtain ⟨gm, hgm⟩ : ∃ gm, (getM (pg k)).2.2.1 = gm := ⟨_, rfl⟩
      obtain ⟨ge, hge⟩ : ∃ ge, (getM (pg k)).2.2.2 = ge := ⟨_, rfl⟩
      rw [hgk, hgb, hgm, hge] at HGk
      rw [hgk, hge] at HGD
      have KH := Lib.hid (fun W => holds_any gk W)
      obtain ⟨hd, hhd⟩ : ∃ hd, decide (gk ≠ 1 ∧ gk ≠ 2 ∧ gk ≠ 3) = hd := ⟨_, rfl⟩
      rw [hhd] at HGD KH
      obtain ⟨gkn, hgkn⟩ : ∃ gkn, gk.toNat = gkn := ⟨_, rfl⟩
      rw [hgkn] at HGk KH
      clear hgk hgb hgm hge hhd hgkn
      by_cases h0 : ge = 0
      · subst h0
        cases hd with
        | true =>
          have HS2 := Lib.hid (show recTo pg (k + 1) = recTo pg k ++ [k] by rw [HS.out, if_pos ⟨hk2, by rw [HGD.out]; rfl⟩])
          clear HS HGD
          go_wp2_with (first
            | (with_reducible refine wpl_seg_store sizePl (.tmp 7) (.tmp 18) rfl rfl NA 0 (plc x k) rfl (Nat.le_refl _) (plc_one x k) rfl rfl _ rfl ?_; intro w1 N1 g1 e1; have B1 := Lib.hid (ba.out.grown g1 (by simp) (fun k e => by cases e; exact Nat.le_refl _)); have T1 := Lib.hid (hb.out.trans (B1.out.mono hb.out.size)); have K1 := Lib.hid (HGk.out w1 (HL.out.after T1.out)); have O1 := Lib.hid (hO.out.kept (only_of_below B1.out none) (by cases A <;> simp [Value.ownBlock])); clear NA g1 e1)
            | (with_reducible refine wpl_seg_load aggPl sizePl (.tmp 7) rfl rfl N1 0 [.int .i64 (x : Int), .int .i64 (k : Int)] rfl rfl rfl ?_)
            | (go_at_call 30; ((with_reducible refine K1.out.mono ?_); rintro e w2 ⟨gv, rfl, _, b2⟩; have N2 := N1.after b2; have T2 := Lib.hid (T1.out.trans (b2.mono T1.out.size)); have O2 := Lib.hid (O1.out.kept (only_of_below b2 none) (by cases A <;> simp [Value.ownBlock])); have O3 := Lib.hid (O2.out.alloc (.cells #[.int .i64 (x : Int), .int .i64 (k : Int)] 44)); have T3 := Lib.hid (T2.out.alloc T2.out.size (.cells #[.int .i64 (x : Int), .int .i64 (k : Int)] 44)); have hnew := Lib.hid (plc_new w2 x k); clear K1 b2 O1 O2))
            | (go_at_call 34; ((with_reducible refine (KH.out _).mono ?_); rintro e w' ⟨rfl, rfl⟩))
            | (with_reducible refine wpl_seg_load aggPl sizePl (.tmp 7) rfl rfl N2 0 [.int .i64 (x : Int), .int .i64 (k : Int)] rfl rfl rfl ?_)
            | (at_builtin; (refine wpList_append_own_at _ rfl (.tmp 33) (.tmp 35) 49 rfl w.heap.size 44 i0 _ 2 16 Tryz.underlying49 hi hz0 hz1 hz2 rfl (by omega) _ n _ rfl O3.out ⟨w2.heap.size, 0, none⟩ 1 1 (plc x k) rfl rfl hnew.out (plc_one x k) (by simp only [maxLen]; omega) (by omega) T3.out.size ?_); intro v' w3 O4 g4 _ _; obtain ⟨A4, c4, rfl, _, _⟩ := own_shape O4; have Q4 := Lib.hid O4; have T4 := Lib.hid (T3.out.grown g4 T3.out.size (fun q e => (O3.out.lt q e).1)); clear O4 g4))
          go_roundw
          case rel => exact ⟨k + 1, by go_num, by omega, by omega, A4, n + 1, c4, rfl, Lib.hid (by rw [HS2.out, List.length_append, hn.out]; rfl), Lib.hid (by rw [HS2.out, plcs_append, plcs_one]; exact Q4.out), T4⟩
          case measure => simp [intOf]; omega
        | false =>
          have HS2 := Lib.hid (show recTo pg (k + 1) = recTo pg k by rw [HS.out, if_neg (by rw [HGD.out]; simp)])
          clear HS HGD
          go_wp2_with (first
            | (with_reducible refine wpl_seg_store sizePl (.tmp 7) (.tmp 18) rfl rfl NA 0 (plc x k) rfl (Nat.le_refl _) (plc_one x k) rfl rfl _ rfl ?_; intro w1 N1 g1 e1; have B1 := Lib.hid (ba.out.grown g1 (by simp) (fun k e => by cases e; exact Nat.le_refl _)); have T1 := Lib.hid (hb.out.trans (B1.out.mono hb.out.size)); have K1 := Lib.hid (HGk.out w1 (HL.out.after T1.out)); have O1 := Lib.hid (hO.out.kept (only_of_below B1.out none) (by cases A <;> simp [Value.ownBlock])); clear NA g1 e1)
            | (with_reducible refine wpl_seg_load aggPl sizePl (.tmp 7) rfl rfl N1 0 [.int .i64 (x : Int), .int .i64 (k : Int)] rfl rfl rfl ?_)
            | (go_at_call 30; ((with_reducible refine K1.out.mono ?_); rintro e w2 ⟨gv, rfl, _, b2⟩; have N2 := N1.after b2; have T2 := Lib.hid (T1.out.trans (b2.mono T1.out.size)); have O2 := Lib.hid (O1.out.kept (only_of_below b2 none) (by cases A <;> simp [Value.ownBlock])); have O3 := Lib.hid O2; clear K1 b2 O1 O2))
            | (go_at_call 34; ((with_reducible refine (KH.out _).mono ?_); rintro e w' ⟨rfl, rfl⟩)))
          go_roundw
          case rel => exact ⟨k + 1, by go_num, by omega, by omega, A, n, c, rfl, Lib.hid (by rw [HS2.out]; exact hn.out), Lib.hid (by rw [HS2.out]; exact O3.out), T2⟩
          case measure => simp [intOf]; omega
      · have d1 : (((ge : Nat) : Int) == 0) = false := by rw [beq_eq_false_iff_ne]; omega
        have HS2 := Lib.hid (show recTo pg (k + 1) = recTo pg k by rw [HS.out, if_neg (by rw [HGD.out, decide_eq_false h0]; simp)])
        clear HS HGD
        go_wp2_with (first
          | (with_reducible refine wpl_seg_store sizePl (.tmp 7) (.tmp 18) rfl rfl NA 0 (plc x k) rfl (Nat.le_refl _) (plc_one x k) rfl rfl _ rfl ?_; intro w1 N1 g1 e1; have B1 := Lib.hid (ba.out.grown g1 (by simp) (fun k e => by cases e; exact Nat.le_refl _)); have T1 := Lib.hid (hb.out.trans (B1.out.mono hb.out.size)); have K1 := Lib.hid (HGk.out w1 (HL.out.after T1.out)); have O1 := Lib.hid (hO.out.kept (only_of_below B1.out none) (by cases A <;> simp [Value.ownBlock])); clear NA g1 e1)
          | (with_reducible refine wpl_seg_load aggPl sizePl (.tmp 7) rfl rfl N1 0 [.int .i64 (x : Int), .int .i64 (k : Int)] rfl rfl rfl ?_)
          | (go_at_call 30; ((with_reducible refine K1.out.mono ?_); rintro e w2 ⟨gv, rfl, _, b2⟩; have N2 := N1.after b2; have T2 := Lib.hid (T1.out.trans (b2.mono T1.out.size)); have O2 := Lib.hid (O1.out.kept (only_of_below b2 none) (by cases A <;> simp [Value.ownBlock])); have O3 := Lib.hid O2; clear K1 b2 O1 O2)))
        go_roundw
        case rel => exact ⟨k + 1, by go_num, by omega, by omega, A, n, c, rfl, Lib.hid (by rw [HS2.out]; exact hn.out), Lib.hid (by rw [HS2.out]; exact O3.out), T2⟩
        case measure => simp [intOf]; omega
    · obtain rfl : k = 8 := by omega
      go_wp2
      go_ret
      exact ⟨A, n, c, rfl, hn.out, hO.out, hb.out⟩
end
end Go.Proofs.YtdiocjneakfdgaaGreatDoor

/- A region that draws its order within a round of a range over a function: walked as outside. Condition: no 'defer' in it; nothing lets the walk out. -/
namespace Go.Proofs.YtdiocjneakfdgaaGreatDoor
open Go.RowKit
section
variable {P : Program} {l n : Nat} {ops : Array Oper} {Q : Exit → Act → World → Prop}
theorem rows_inRound {row : String} {args : Array Value} {w : World} {R : Value → World → Prop} (h : Rows P row args w R) : RowsIn (Fence.wide.inRound l) n P row args w R := fun c cs _ =>
  let ⟨v, w', r, s⟩ := h c cs
  ⟨v, w', r, (show StepsIn (Machine.fenced P Fence.wide) P _ _ from stepsIn_wide.2 s)⟩
theorem oper_inRound {o : Oper} {a : Act} {w : World} {K : Act → World → Prop} (hd : ∀ c, o.op ≠ .defer c) (h : o.wp P a w K Q) : o.wpIn (Fence.wide.inRound l) n P a w K Q := by
  refine ⟨fun _ _ => (trivial : True), ?_⟩
  show o.uponIn (Fence.wide.inRound l) n P a K Q ((Oper.semAt (some l) a.eval o).run P w)
  rw [Oper.semAt_some l a.eval o hd]
  unfold Oper.wp at h
  generalize (execOp a.eval o).run P w = r at h
  unfold Oper.upon at h
  split at h
  · exact h
  · exact h
  · exact h
  · exact ⟨(fun q => by cases q), CallsIn.inRound l (callsIn_wide.2 h)⟩
  · exact ⟨(fun q => by cases q), rows_inRound h⟩
  · exact h
  · exact h.elim
theorem wpOp_inRound {i : Nat} {K : Act → World → Prop} {a : Act} {w : World} (hd : ∀ o : Oper, ops[i]? = some o → ∀ c, o.op ≠ .defer c) (hQ : ¬ LetsOut Q) (h : wpOp P ops Q i K a w) : wpOpIn (Fence.wide.inRound l) n P ops Q i K a w := by
  unfold wpOp at h
  unfold wpOpIn
  cases ho : ops[i]? with
  | none => rw [ho] at h; exact h
  | some o =>
    rw [ho] at h
    simp only at h ⊢
    by_cases hw : Region.wanted o (yielded ops a.tmps) = true
    · rw [if_pos hw] at h ⊢
      rcases h with h | h
      · exact oper_inRound (hd o ho) h
      · exact absurd h.2 hQ
    · rw [if_neg hw] at h ⊢
      exact ⟨fun _ _ => (trivial : True), h⟩
theorem wpAny_inRound {md : Region.Mode} (hd : ∀ (i : Nat) (o : Oper), ops[i]? = some o → ∀ c, o.op ≠ .defer c) (hQ : ¬ LetsOut Q) : ∀ (fuel : Nat) (ls : Array Bool) (a : Act) (w : World), wpAny P md ops Q fuel ls a w → wpAnyIn (Fence.wide.inRound l) n P md ops Q fuel ls a w
  | 0, _, _, _, h => h
  | fuel + 1, _, _, _, h => ⟨h.1, fun i hi => wpOp_inRound (fun o ho => hd i o ho) hQ (wpOp_mono (fun a' w' q => wpAny_inRound hd hQ fuel _ a' w' q) (h.2 i hi))⟩
/-- the region, by an S that holds throughout -/
theorem region_inRound {id : Nat} {S : World → Prop} {a : Act} {w : World} (hm : P.follows .mixedOrders = true) (hd : ∀ (i : Nat) (o : Oper), ops[i]? = some o → ∀ c, o.op ≠ .defer c) (hQ : ¬ LetsOut Q)
    (h : wpAnyH P .any ops Q S ops.size (Array.replicate ops.size false) a w.drew) : (Code.region id ops true).wpIn (Fence.wide.inRound l) n P Q a w :=
  wpIn_region_any hm (wpAny_inRound hd hQ _ _ _ _ (wpAny_of_held _ _ _ _ h))
/-- it ends only as it should -/
def onlyK (K : Act → World → Prop) : Exit → Act → World → Prop
  | .normal, a, w => K a w
  | _, _, _ => False
def isDefer (o : Oper) : Bool := match o.op with
  | .defer _ => true
  | _ => false
theorem no_defer (h : ops.all (fun o => !isDefer o) = true) (i : Nat) (o : Oper) (ho : ops[i]? = some o) (c : Call) : o.op ≠ .defer c := fun e => by
  have hm := Array.mem_of_getElem? ho
  have := (Array.all_eq_true'.1 h) o hm
  unfold isDefer at this
  rw [e] at this
  cases this
theorem region_inRound' {id : Nat} (S : World → Prop) (K : Act → World → Prop) {a : Act} {w : World} (hK : ∀ a w, K a w → Q .normal a w) (hm : P.follows .mixedOrders = true) (hd : ops.all (fun o => !isDefer o) = true)
    (h : wpAnyH P .any ops (onlyK K) S ops.size (Array.replicate ops.size false) a w.drew) : (Code.region id ops true).wpIn (Fence.wide.inRound l) n P Q a w :=
  wpIn_mono (region_inRound hm (no_defer hd) (fun ⟨_, _, q⟩ => q) h) (fun e a w q => by cases e <;> first | exact hK _ _ q | exact q.elim)
/-- an append, at the operation itself -/
theorem op_append {o : Oper} {a : Act} {w : World} {K : Act → World → Prop} (s x : Operand) (t : TypeId) (ho : o.op = .call { callee := .builtin .append, args := #[s, x], argTypes := #[t, t] })
    (base : Nat) (e : TypeId) (i : TypeInfo) (z : Value) (size bytes : Nat) (ht : P.underlying t = some (.slice e)) (hi : P.info? e = some i) (hz : i.zero = some z) (hsize : i.size = size) (hby : i.bytes = bytes) (hzs : z.cells.size = size) (hsz : 0 < size)
    (v : Value) (n : Nat) (xs : List Value) (hs : a.eval s = v) (hown : w.ownsRow base e size v n xs) (ad : Addr) (m c : Nat) (news : List Value) (hx : a.eval x = .slice (some ad) m c) (hl : news.length = m * size) (hnews : ∀ j u, news[j]? = some u → w.cell? (ad.add j) = some u) (h1 : ∀ u ∈ news, u.oneCell' = true)
    (h63 : n + m ≤ maxLen) (hbytes : (n + m) * bytes ≤ 140737488355328) (hbase : base ≤ w.heap.size)
    (h : ∀ v' w', w'.ownsRow base e size v' (n + m) (xs ++ news) → w.grownBy w' v.ownBlock → (v'.ownBlock = v.ownBlock ∨ v'.ownBlock = some w.heap.size) → K (a.put o.dst v') w') : o.wp P a w K Q := by
  obtain ⟨v', w', hr, h2, h3, _, h5⟩ := run_append_own_at (P := P) w base t o.type e i z size bytes ht hi hz hsize hby hzs hsz v n xs hown ad m c news hl hnews h1 h63 hbytes hbase
  unfold Oper.wp execOp
  simp only [ho, resolve, invoke, builtin, Sem.run_bind, Sem.run_pure, Result.andThen_ok, List.map_toArray, List.map_cons, List.map_nil, hs, hx, hr]
  exact h v' w' h2 h3 h5
end
end Go.Proofs.YtdiocjneakfdgaaGreatDoor

/- A log's Segments. Condition: the log is there; its segments' numbers differ. -/
namespace Go.Proofs.YtdiocjneakfdgaaGreatDoor
open Go.RowKit Go.Shelf
attribute [local go_sem] Oper.semAt_some
/-- a segment's cells -/
def segRow (Bs : List LB) (x : Nat) (r : Value) : List Value := [.int .i64 (x : Int), .int .u64 (numAt Bs x : Int), .int .u64 (wearAt Bs x : Int), r]
def segRows (Bs : List LB) : List Nat → List Value → List Value
  | x :: os, r :: rs => segRow Bs x r ++ segRows Bs os rs
  | _, _ => []
theorem segRows_snoc (Bs : List LB) : ∀ (os : List Nat) (rs : List Value) (x : Nat) (r : Value), os.length = rs.length → segRows Bs (os ++ [x]) (rs ++ [r]) = segRows Bs os rs ++ segRow Bs x r
  | [], [], x, r, _ => by show segRow Bs x r ++ [] = [] ++ segRow Bs x r; simp
  | [], _ :: _, _, _, h => by cases h
  | _ :: _, [], _, _, h => by cases h
  | y :: os, q :: rs, x, r, h => by
    show segRow Bs y q ++ segRows Bs (os ++ [x]) (rs ++ [r]) = segRow Bs y q ++ segRows Bs os rs ++ segRow Bs x r
    rw [segRows_snoc Bs os rs x r (by simpa using h), List.append_assoc]
/-- the records' places of a segment -/
def PlS (W : World) (B : Nat) (v : Value) (x : Nat) (ks : List Nat) : Prop := ∃ A c, v = .slice A ks.length c ∧ W.ownsRow B 44 2 (.slice A ks.length c) ks.length (plcs x ks)
def PlsS (W : World) (B : Nat) (f : Nat → List Nat) : List Nat → List Value → Prop
  | x :: os, r :: rs => PlS W B r x (f x) ∧ PlsS W B f os rs
  | [], [] => True
  | _, _ => False
theorem PlsS.length {W : World} {B : Nat} {f : Nat → List Nat} : ∀ {os : List Nat} {rs : List Value}, PlsS W B f os rs → os.length = rs.length
  | [], [], _ => rfl
  | [], _ :: _, h => h.elim
  | _ :: _, [], h => h.elim
  | _ :: os, _ :: rs, h => by rw [List.length_cons, List.length_cons, PlsS.length h.2]
theorem PlsS.snoc {W : World} {B : Nat} {f : Nat → List Nat} {x : Nat} {r : Value} : ∀ {os : List Nat} {rs : List Value}, PlsS W B f os rs → PlS W B r x (f x) → PlsS W B f (os ++ [x]) (rs ++ [r])
  | [], [], _, h => ⟨h, trivial⟩
  | [], _ :: _, h, _ => h.elim
  | _ :: _, [], h, _ => h.elim
  | _ :: _, _ :: _, h, k => ⟨h.1, PlsS.snoc h.2 k⟩
theorem PlS.kept {W W' : World} {B : Nat} {v : Value} {x : Nat} {ks : List Nat} {row : Option Nat} (h : PlS W B v x ks) (hg : W.grownBy W' row) (hr : ∀ r, row = some r → v.ownBlock ≠ some r) : PlS W' B v x ks := by
  obtain ⟨A, c, rfl, ho⟩ := h
  refine ⟨A, c, rfl, ho.kept hg ?_⟩
  cases e : (Value.slice A ks.length c).ownBlock with
  | none => exact Or.inl rfl
  | some g => exact Or.inr (fun q => hr g q.symm e)
theorem PlsS.kept {W W' : World} {B : Nat} {f : Nat → List Nat} {row : Option Nat} (hg : W.grownBy W' row) : ∀ {os : List Nat} {rs : List Value}, (∀ v ∈ rs, ∀ r, row = some r → v.ownBlock ≠ some r) → PlsS W B f os rs → PlsS W' B f os rs
  | [], [], _, h => h
  | [], _ :: _, _, h => h.elim
  | _ :: _, [], _, h => h.elim
  | _ :: _, v :: _, hr, h => ⟨h.1.kept hg (hr v List.mem_cons_self), PlsS.kept hg (fun u hu => hr u (List.mem_cons_of_mem _ hu)) h.2⟩
theorem PlsS.blocks {W : World} {B : Nat} {f : Nat → List Nat} : ∀ {os : List Nat} {rs : List Value}, PlsS W B f os rs → ∀ v ∈ rs, ∀ g, v.ownBlock = some g → B ≤ g ∧ ∃ o : Obj, W.heap[g]? = some o ∧ o.isCells = true
  | [], [], _, v, hv, _, _ => by cases hv
  | [], _ :: _, h, _, _, _, _ => h.elim
  | _ :: _, [], h, _, _, _, _ => h.elim
  | _ :: os, u :: rs, h, v, hv, g, hg => by
    rcases List.mem_cons.1 hv with rfl | hv
    · obtain ⟨A, c, rfl, ho⟩ := h.1
      rcases ho.2 with ⟨hv', _⟩ | ⟨g', cap, cur, hv', hb, hh, _⟩
      · rw [hv'] at hg; cases hg
      · rw [hv'] at hg
        simp only [Value.ownBlock, Option.some.injEq] at hg
        subst hg
        exact ⟨hb, _, hh, rfl⟩
    · exact PlsS.blocks h.2 v hv g hg
theorem PlsS.lower {W : World} {B B' : Nat} (hB : B' ≤ B) {f : Nat → List Nat} : ∀ {os : List Nat} {rs : List Value}, PlsS W B f os rs → PlsS W B' f os rs
  | [], [], h => h
  | [], _ :: _, h => h.elim
  | _ :: _, [], h => h.elim
  | _ :: _, _ :: _, h => ⟨by
      obtain ⟨A, c, e, ho⟩ := h.1
      refine ⟨A, c, e, ho.1, ?_⟩
      rcases ho.2 with q | ⟨g, cap, cur, h1, h2, h3⟩
      · exact Or.inl q
      · exact Or.inr ⟨g, cap, cur, h1, Nat.le_trans hB h2, h3⟩, PlsS.lower hB h.2⟩
theorem infoSg : (Tryz.prog.info? 51).map (fun i => (i.zero, i.size, i.bytes)) = some (some (.agg #[.int .i64 0, .int .u64 0, .int .u64 0, .slice none 0 0]), 4, 48) := by kernel_rfl
/-- all rows of numbers lie as they lay -/
def KT (A B : World) : Prop := A.heap.size ≤ B.heap.size ∧ ∀ k cs, Blk A k 3 cs → Blk B k 3 cs
theorem KT.trans {A B C : World} (h : KT A B) (k : KT B C) : KT A C := ⟨Nat.le_trans h.1 k.1, fun i cs hi => k.2 i cs (h.2 i cs hi)⟩
theorem KT.putObj (W : World) (l : Nat) (o o' : Obj) (h : W.heap[l]? = some o) (hc : o.isCells = false) : KT W (W.putObj l o') :=
  ⟨by simp, fun k cs hb => (World.putObj_heap_other (fun e => by subst e; rw [show W.heap[k]? = _ from hb] at h; cases h; cases hc)).trans hb⟩
theorem KT.below {A B : World} (h : Below A.heap.size A B) : KT A B := ⟨h.size, fun _ _ hb => Blk.after hb h⟩
theorem KT.grown {A B : World} {r : Nat} (h : A.grownBy B (some r)) {t : TypeId} {cs : Array Value} {fr : Nat × Nat} (hr : A.heap[r]? = some (.cells cs t fr)) (ht : t ≠ 3) : KT A B :=
  ⟨h.size, fun k ds hb => Blk.grown hb h (fun e => by
    cases e
    rw [show A.heap[r]? = _ from hb] at hr
    cases hr
    exact ht rfl)⟩
theorem ko_below {A B : World} (h : Below A.heap.size A B) : KeepsOthers A B := ⟨h.size, fun k _ hk _ => (h.block k (Array.getElem?_eq_some_iff.1 hk).1).trans hk⟩
theorem ko_grown {A B : World} {row : Option Nat} (h : A.grownBy B row) (hr : ∀ r, row = some r → ∃ o : Obj, A.heap[r]? = some o ∧ o.isCells = true) : KeepsOthers A B := ⟨h.size, fun k o hk hc => (h.block k (Array.getElem?_eq_some_iff.1 hk).1 (fun e => by
    obtain ⟨o', h1, h2⟩ := hr k e.symm
    rw [hk] at h1; cases h1; rw [hc] at h2; cases h2)).trans hk⟩
theorem own_typed {W : World} {base s : Nat} {e : TypeId} {v : Value} {n : Nat} {xs : List Value} (h : W.ownsRow base e s v n xs) : ∀ g, v.ownBlock = some g → ∃ cs, W.heap[g]? = some (.cells cs e (0, 0)) := fun g hg => by
  rcases h.2 with ⟨rfl, _⟩ | ⟨g', cap, cur, rfl, hb, hh, _⟩
  · cases hg
  · simp only [Value.ownBlock, Option.some.injEq] at hg
    subst hg
    exact ⟨_, hh⟩
theorem own_lower {W : World} {base base' s : Nat} {e : TypeId} {v : Value} {n : Nat} {xs : List Value} (h : W.ownsRow base e s v n xs) (hb : base' ≤ base) : W.ownsRow base' e s v n xs := by
  refine ⟨h.1, ?_⟩
  rcases h.2 with q | ⟨g, cap, cur, h1, h2, h3⟩
  · exact Or.inl q
  · exact Or.inr ⟨g, cap, cur, h1, Nat.le_trans hb h2, h3⟩
theorem sg_new (w : World) (a b c : Value) (r : Value) : ∀ j u, ([a, b, c, r] : List Value)[j]? = some u → (w.alloc (.cells #[a, b, c, r] 51)).cell? ((⟨w.heap.size, 0, none⟩ : Addr).add j) = some u := fun j u hu => by
  have ha : (⟨w.heap.size, 0, none⟩ : Addr).add j = ⟨w.heap.size, j, none⟩ := by unfold Addr.add; split <;> simp_all
  rw [ha]
  exact ((show Blk (w.alloc (.cells #[a, b, c, r] 51)) w.heap.size 51 [a, b, c, r] from Blk.new w 51 [a, b, c, r]).cell j).trans hu
/-- what the list of segments is, when some have come -/
structure SgI (w0 W : World) (B : Nat) (s1 : Nat) (Bs : List LB) (f : Nat → List Nat) (os : List Nat) : Prop where
  ex : ∃ A n c rs, n = os.length ∧ Blk W s1 47 [.slice A n c] ∧ W.ownsRow B 51 4 (.slice A n c) n (segRows Bs os rs) ∧ PlsS W B f os rs ∧ (∀ g, (Value.slice A n c).ownBlock = some g → ∀ v ∈ rs, v.ownBlock ≠ some g)
  below : Below w0.heap.size w0 W
theorem own_cells {W : World} {base s : Nat} {e : TypeId} {v : Value} {n : Nat} {xs : List Value} (h : W.ownsRow base e s v n xs) : ∀ g, v.ownBlock = some g → base ≤ g ∧ ∃ o : Obj, W.heap[g]? = some o ∧ o.isCells = true := fun g hg => by
  rcases h.2 with ⟨rfl, _⟩ | ⟨g', cap, cur, rfl, hb, hh, _⟩
  · cases hg
  · simp only [Value.ownBlock, Option.some.injEq] at hg
    subst hg
    exact ⟨hb, _, hh, rfl⟩
theorem SgI.abide {w0 W W' : World} {B s1 : Nat} {Bs : List LB} {f : Nat → List Nat} {os : List Nat} {row : Option Nat} (h : SgI w0 W B s1 Bs f os) (hg : W.grownBy W' row) (hr : ∀ r, row = some r → w0.heap.size ≤ r ∧ ∃ o : Obj, W.heap[r]? = some o ∧ o.isCells = false) : SgI w0 W' B s1 Bs f os := by
  have hne : ∀ g, (∃ o : Obj, W.heap[g]? = some o ∧ o.isCells = true) → some g ≠ row := fun g ⟨o, ho, hc⟩ e => by
    obtain ⟨_, o', ho', hc'⟩ := hr g e.symm
    rw [ho] at ho'; cases ho'; rw [hc] at hc'; cases hc'
  obtain ⟨A, n, c, rs, h1, h2, h3, h4, h5⟩ := h.ex
  refine ⟨⟨A, n, c, rs, h1, h2.grown hg (hne s1 ⟨_, h2, rfl⟩), h3.kept hg ?_, h4.kept hg (fun v hv r e q => (hne r (h4.blocks v hv r q).2) e.symm), h5⟩, h.below.grown hg h.below.size (fun k e => (hr k e).1)⟩
  cases e : (Value.slice A n c).ownBlock with
  | none => exact Or.inl rfl
  | some g => exact Or.inr (fun q => hne g (own_cells h3 g e).2 q)
section
variable {w : World} {g h d t : Nat} {a : At} {X : DS} {N C : Nat} {Bs : List LB} {num : Nat} {os : List Nat}
set_option maxRecDepth 100000 in
set_option maxHeartbeats 8000000 in
theorem segments_any (l : Lg w g h d t a X N C Bs num) (ord : IsOrder Bs os) (hlen : os.length ≤ 100) :
    Calls Tryz.prog 8 #[.pointer (some ⟨g, 0, none⟩)] w fun e w' => ∃ A c rs, e = .returned (.slice A os.length c) ∧ w'.ownsRow w.heap.size 51 4 (.slice A os.length c) os.length (segRows Bs os rs) ∧ PlsS w' w.heap.size (fun x => recTo (fun k => (X.blk x).pg.getD k []) 8) os rs ∧ Below w.heap.size w w' := by
  obtain ⟨i0, hi, hz0, hz1, hz2⟩ := info_parts infoSg
  refine (callsIn_wide (n := 4)).1 (callsIn_of_wp_marks Tryz.func8 rfl trivial (wpIn_wide.2 ?_))
  simp only [Tryz.ntmps8, List.size_toArray, List.length_cons, List.length_nil, Nat.reduceAdd, Nat.reduceSub, Array.replicate_succ, Array.replicate_zero, List.push_toArray, List.append_toArray, List.nil_append, List.cons_append]
  have b1 := Lib.hid ((Below.refl w.heap.size w).alloc (Nat.le_refl _) (.cells #[.pointer (some ⟨g, 0, none⟩)] 26))
  have b2 := Lib.hid (b1.out.alloc b1.out.size (.cells #[.slice none 0 0] 47))
  have B0 : Hid (Blk ((w.alloc (.cells #[.pointer (some ⟨g, 0, none⟩)] 26)).alloc (.cells #[.slice none 0 0] 47)) w.heap.size 26 [.pointer (some ⟨g, 0, none⟩)]) := Lib.hid ((show Blk (w.alloc (.cells #[.pointer (some ⟨g, 0, none⟩)] 26)) w.heap.size 26 [.pointer (some ⟨g, 0, none⟩)] from heap_alloc_new w _).alloc _)
  have B1 : Hid (Blk ((w.alloc (.cells #[.pointer (some ⟨g, 0, none⟩)] 26)).alloc (.cells #[.slice none 0 0] 47)) (w.heap.size + 1) 47 [.slice none 0 0]) := Lib.hid (by have := heap_alloc_new (w.alloc (.cells #[.pointer (some ⟨g, 0, none⟩)] 26)) (.cells #[.slice none 0 0] 47); rw [World.size_alloc] at this; exact this)
  have cb := B0.out.cell 0
  simp only [List.getElem?_cons_zero] at cb
  have L2 := Lib.hid (l.after b2.out)
  have HORD := Lib.hid ord
  have HLEN := Lib.hid hlen
  have HL := Lib.hid l
  obtain ⟨f, hf⟩ : ∃ f : Nat → List Nat, (fun x => recTo (fun k => (X.blk x).pg.getD k []) 8) = f := ⟨_, rfl⟩
  have HR := Lib.hid (fun (w' : World) (hl : Lg w' g h d t a X N C Bs num) (x : Nat) (hx : x < N - 6) => show Calls Tryz.prog 24 #[.pointer (some ⟨g, 0, none⟩), .int .i64 (x : Int)] w' fun e w2 => ∃ A n c, e = .returned (.slice A n c) ∧ n = (f x).length ∧ w2.ownsRow w'.heap.size 44 2 (.slice A n c) n (plcs x (f x)) ∧ Below w'.heap.size w' w2 from by rw [← hf]; exact records_any hl hx)
  rw [hf]
  clear l ord hlen hf
  go_wp2
  obtain ⟨V, hV⟩ : ∃ V, (w.alloc (.cells #[.pointer (some ⟨g, 0, none⟩)] 26)).alloc (.cells #[.slice none 0 0] 47) = V := ⟨_, rfl⟩
  rw [hV] at b2 B0 B1 L2 ⊢
  obtain ⟨x0, hx0⟩ : ∃ x0, w.heap.size = x0 := ⟨_, rfl⟩
  rw [hx0] at B0 B1 ⊢
  have HX0 := Lib.hid hx0
  clear hV hx0 b1 cb
  refine (wpIn_wide (n := 4)).1 ?_
  refine wpIn_range_bound (n := 4) (by omega) (gf := 23) (fs := #[.pointer (some ⟨g, 0, none⟩)]) (os := os) rfl (enters_of Tryz.func23 (by kernel_rfl) rfl)
    (inOrder_gives L2.out HORD.out (Kp := KT) (fun A B k cs hk _ hb => hk.2 k cs hb) 3 (by omega)) KT.trans (fun W l o o' _ h1 h2 _ => KT.putObj W l o o' h1 h2) rfl
    (fun k W => Blk W x0 26 [.pointer (some ⟨g, 0, none⟩)] ∧ SgI w W (x0 + 2) (x0 + 1) Bs f (os.take k))
    (OwnFrom.and (Blk.own _ (fun _ : Nat => [.pointer (some ⟨g, 0, none⟩)])) (fun k W W' row hs hg hr => hs.abide hg (fun r e => ⟨Nat.le_trans b2.out.size (hr r e).1, (hr r e).2⟩)))
    ⟨B0.out, ⟨none, 0, 0, [], by rw [List.take_zero]; rfl, B1.out, by rw [List.take_zero]; exact World.ownsRow_nil _ _ _ _, by rw [List.take_zero]; exact trivial, fun g hg => by cases hg⟩, b2.out⟩
    (fun x : Nat => { tmps := #[.pointer (some ⟨g, 0, none⟩), .pointer (some ⟨x0, 0, none⟩), .slice none 0 0, .pointer (some ⟨x0 + 1, 0, none⟩), .int .i64 (x : Int), undef, .pointer (some ⟨g, 0, none⟩), .func (.func 23) #[.pointer (some ⟨g, 0, none⟩)] #[], .int .i64 (x : Int), undef, undef, undef, undef, undef, undef, undef, undef, undef, undef, undef, undef, undef, undef, undef, undef, undef, undef, undef, undef], defers := [] }) ?assign ?body ?done
  case assign =>
    intro l x W K hK
    gi_wp2
    exact hK
  case body =>
    rintro l k x W hx ⟨q0, q1⟩
    have HT := Lib.hid (take_snoc os hx)
    have LW := Lib.hid (HL.out.after q1.below)
    have hxs := (HORD.out.mem x).1 (List.mem_of_getElem? hx)
    have hxl : x < Bs.length := segAt_lt hxs
    obtain ⟨b, hb⟩ : ∃ b, Bs[x]? = some b := ⟨_, List.getElem?_eq_getElem hxl⟩
    rw [LW.out.len] at hxl
    have hn := LW.out.n
    obtain ⟨_, c1, _⟩ := LW.out.cells
    obtain ⟨k0, k1, k2, k3, k4⟩ := LW.out.cell hb
    have c0 := q0.cell 0
    simp only [List.getElem?_cons_zero] at c0
    have HSR := Lib.hid (show ∀ r, segRow Bs x r = [.int .i64 (x : Int), .int .u64 (b.num : Int), .int .u64 (b.wear : Int), r] from fun r => by unfold segRow; rw [numAt_get hb, wearAt_get hb])
    have HXL := Lib.hid hxl
    obtain ⟨M, hM⟩ : ∃ M, N - 6 = M := ⟨_, rfl⟩
    have hM40 : M ≤ 40 := by omega
    rw [hM] at c1 hxl
    have Q0 := Lib.hid q0
    have Q1 := Lib.hid q1
    obtain ⟨bw, hbw⟩ : ∃ bw, b.wear = bw := ⟨_, rfl⟩
    obtain ⟨bn, hbn⟩ : ∃ bn, b.num = bn := ⟨_, rfl⟩
    obtain ⟨bx, hbx⟩ : ∃ bx, b.next = bx := ⟨_, rfl⟩
    obtain ⟨bc, hbc⟩ : ∃ bc, b.clr = bc := ⟨_, rfl⟩
    obtain ⟨bs, hbs⟩ : ∃ bs, b.seg = bs := ⟨_, rfl⟩
    rw [hbw] at k0 HSR
    rw [hbc] at k1
    rw [hbs] at k2
    rw [hbn] at k3 HSR
    rw [hbx] at k4
    clear q0 q1 hx hxs hb hn hM hbw hbn hbx hbc hbs

    gi_wp2
    obtain ⟨A, n, c, rs, hnl, hl, hO, hP, hne⟩ := Q1.out.ex
    have b3 := Lib.hid ((Below.refl W.heap.size W).alloc (Nat.le_refl _) (.cells #[.int .u64 (bw : Int), .bool bc, .bool bs, .int .u64 (bn : Int), .int .i64 (bx : Int)] 80))
    have BB := Lib.hid (show Blk (W.alloc (.cells #[.int .u64 (bw : Int), .bool bc, .bool bs, .int .u64 (bn : Int), .int .i64 (bx : Int)] 80)) W.heap.size 80 [.int .u64 (bw : Int), .bool bc, .bool bs, .int .u64 (bn : Int), .int .i64 (bx : Int)] from heap_alloc_new W _)
    obtain ⟨V1, hV1⟩ : ∃ V1, W.alloc (.cells #[.int .u64 (bw : Int), .bool bc, .bool bs, .int .u64 (bn : Int), .int .i64 (bx : Int)] 80) = V1 := ⟨_, rfl⟩
    rw [hV1] at b3 BB ⊢
    obtain ⟨wb, hwb⟩ : ∃ wb, W.heap.size = wb := ⟨_, rfl⟩
    rw [hwb] at BB ⊢
    have HWB := Lib.hid hwb
    have HV1S := Lib.hid (show V1.heap.size = wb + 1 by rw [← hV1, World.size_alloc, hwb])
    have HN := Lib.hid hnl
    have BL := Lib.hid hl
    have HO := Lib.hid hO
    have HPS := Lib.hid hP
    have HNE := Lib.hid hne
    have HS1 := Lib.hid hl.lt
    have hn100 : n ≤ 100 := by rw [hnl, List.length_take]; have := HLEN.out; omega
    clear hV1 hwb c0 c1 k0 k1 k2 k3 k4 hnl hl hO hP hne
    refine region_inRound' (fun w' => w'.cell? ⟨x0, 0, none⟩ = some (.pointer (some ⟨g, 0, none⟩)) ∧ Blk w' wb 80 [.int .u64 (bw : Int), .bool bc, .bool bs, .int .u64 (bn : Int), .int .i64 (bx : Int)])
      (fun _ W' => KeepsOthers W W' ∧ KT W W' ∧ (Blk W' x0 26 [.pointer (some ⟨g, 0, none⟩)] ∧ SgI w W' (x0 + 2) (x0 + 1) Bs f (os.take (k + 1)))) (fun _ _ q => q) (by kernel_rfl) (by kernel_rfl) ?_
    have S0 : V1.drew.cell? ⟨x0, 0, none⟩ = some (.pointer (some ⟨g, 0, none⟩)) ∧ Blk V1.drew wb 80 [.int .u64 (bw : Int), .bool bc, .bool bs, .int .u64 (bn : Int), .int .i64 (bx : Int)] := ⟨(Q0.out.after b3.out).cell 0, BB.out⟩
    have LV := Lib.hid (LW.out.after b3.out.drew)
    have KRC := Lib.hid (HR.out V1.drew LV.out x HXL.out)
    refine wpAnyH_take (i := 1) (v := .int .i64 (x : Int)) rfl (by kernel_rfl) (by kernel_rfl) (by kernel_rfl) (fun _ _ _ h => h) (Or.inl ⟨by kernel_rfl, fun w _ => by go_simp⟩) S0 ?_
    refine wpAnyH_take (i := 2) (v := .pointer (some ⟨wb, 3, none⟩)) rfl (by kernel_rfl) (by kernel_rfl) (by kernel_rfl) (fun _ _ _ h => h) (Or.inl ⟨by kernel_rfl, fun w _ => by go_simp⟩) S0 ?_
    refine wpAnyH_take (i := 3) (v := .int .u64 (bn : Int)) rfl (by kernel_rfl) (by kernel_rfl) (by kernel_rfl) (fun _ _ _ h => h) (yields_one (ty := 31) (fun w => by kernel_rfl) (.tmp 18) (by kernel_rfl) (by kernel_rfl) (by kernel_rfl) (fun _ h => h.2.cell 3)) S0 ?_
    refine wpAnyH_take (i := 4) (v := .pointer (some ⟨wb, 0, none⟩)) rfl (by kernel_rfl) (by kernel_rfl) (by kernel_rfl) (fun _ _ _ h => h) (Or.inl ⟨by kernel_rfl, fun w _ => by go_simp⟩) S0 ?_
    refine wpAnyH_take (i := 5) (v := .int .u64 (bw : Int)) rfl (by kernel_rfl) (by kernel_rfl) (by kernel_rfl) (fun _ _ _ h => h) (yields_one (ty := 31) (fun w => by kernel_rfl) (.tmp 20) (by kernel_rfl) (by kernel_rfl) (by kernel_rfl) (fun _ h => h.2.cell 0)) S0 ?_
    refine wpAnyH_take (i := 6) (v := .pointer (some ⟨g, 0, none⟩)) rfl (by kernel_rfl) (by kernel_rfl) (by kernel_rfl) (fun _ _ _ h => h) (yields_one (ty := 26) (fun w => by kernel_rfl) (.tmp 1) (by kernel_rfl) (by kernel_rfl) (by kernel_rfl) (fun _ h => h.1)) S0 ?_
    refine wpAnyH_take (i := 7) (v := .int .i64 (x : Int)) rfl (by kernel_rfl) (by kernel_rfl) (by kernel_rfl) (fun _ _ _ h => h) (Or.inl ⟨by kernel_rfl, fun w _ => by go_simp⟩) S0 ?_
    refine wpAnyH_ready (rs := [0, 8]) (by kernel_rfl) (by simp) (AllReadyH.cons rfl (fun K hK => ?_) (AllReadyH.cons rfl (fun K hK => ?_) AllReadyH.nil))
    · have cl0 : (V1.drew).cell? ⟨x0 + 1, 0, none⟩ = some (.slice A n c) := (BL.out.after b3.out.drew).cell 0
      go_simp
      refine hK.out _ _ S0 (fun _ => ?_)
      clear hK K cl0
      refine wpAnyH_ready (rs := [8]) (by kernel_rfl) (by simp) (AllReadyH.cons rfl (fun K hK => ?_) AllReadyH.nil)
      go_simp
      ((with_reducible refine KRC.out.mono ?_); rintro e w5 ⟨A4, n4, c4, rfl, hn4, hO4, b5'⟩)
      have b5 : Below V1.heap.size V1 w5 := (Below.refl _ V1).drew.trans b5'
      have S5 : w5.cell? ⟨x0, 0, none⟩ = some (.pointer (some ⟨g, 0, none⟩)) ∧ Blk w5 wb 80 [.int .u64 (bw : Int), .bool bc, .bool bs, .int .u64 (bn : Int), .int .i64 (bx : Int)] := ⟨((Q0.out.after b3.out).after b5).cell 0, BB.out.after b5⟩
      have T5 := Lib.hid (b3.out.trans (b5.mono b3.out.size))
      have P4 := Lib.hid hO4
      have HN4 := Lib.hid hn4
      have HBB := Lib.hid b5.size
      refine hK.out _ _ S5 (fun _ => ?_)
      clear hK K KRC hO4 hn4 b5 b5'
      refine wpAnyH_take (i := 9) (v := .agg #[.int .i64 (x : Int), .int .u64 (bn : Int), .int .u64 (bw : Int), .slice A4 n4 c4]) rfl (by kernel_rfl) (by kernel_rfl) (by kernel_rfl) (fun _ _ _ h => h) (Or.inl ⟨by kernel_rfl, fun w _ => by go_simp⟩) S5 ?_
      refine wpAnyH_ready (rs := [10]) (by kernel_rfl) (by simp) (AllReadyH.cons rfl (fun K hK => ?_) AllReadyH.nil)
      go_simp
      have S6 : (w5.alloc (.cells #[.int .i64 (x : Int), .int .u64 (bn : Int), .int .u64 (bw : Int), .slice A4 n4 c4] 51)).cell? ⟨x0, 0, none⟩ = some (.pointer (some ⟨g, 0, none⟩)) ∧ Blk (w5.alloc (.cells #[.int .i64 (x : Int), .int .u64 (bn : Int), .int .u64 (bw : Int), .slice A4 n4 c4] 51)) wb 80 [.int .u64 (bw : Int), .bool bc, .bool bs, .int .u64 (bn : Int), .int .i64 (bx : Int)] := ⟨((Q0.out.after T5.out).alloc _).cell 0, S5.2.alloc _⟩
      refine hK.out _ _ S6 (fun _ => ?_)
      clear hK K
      have T6 := Lib.hid (T5.out.alloc T5.out.size (.cells #[.int .i64 (x : Int), .int .u64 (bn : Int), .int .u64 (bw : Int), .slice A4 n4 c4] 51))
      have O6 := Lib.hid (HO.out.kept (only_of_below T6.out none) (by cases A <;> simp [Value.ownBlock]))
      have L6 := Lib.hid (BL.out.after T6.out)
      have D6 := Lib.hid (S6.2)
      have E6 := Lib.hid (Q0.out.after T6.out)
      have P6 := Lib.hid (World.ownsRow.alloc P4.out (.cells #[.int .i64 (x : Int), .int .u64 (bn : Int), .int .u64 (bw : Int), .slice A4 n4 c4] 51))
      have hnew := Lib.hid (sg_new w5 (.int .i64 (x : Int)) (.int .u64 (bn : Int)) (.int .u64 (bw : Int)) (.slice A4 n4 c4))
      have hw6 := Lib.hid (show (w5.alloc (.cells #[.int .i64 (x : Int), .int .u64 (bn : Int), .int .u64 (bw : Int), .slice A4 n4 c4] 51)).heap.size = w5.heap.size + 1 from World.size_alloc _ _)
      have hw5 := Lib.hid (show w5.heap.size = w5.heap.size from rfl)
      refine wpAnyH_ready (rs := [11]) (by kernel_rfl) (by simp) (AllReadyH.cons rfl (fun K hK => ?_) AllReadyH.nil)
      rw [if_pos (by kernel_rfl)]
      refine op_append (.tmp 16) (.tmp 26) 47 (by kernel_rfl) (x0 + 2) 51 i0 _ 4 48 Tryz.underlying47 hi hz0 hz1 hz2 rfl (by omega) _ n _ (by kernel_rfl) O6.out ⟨w5.heap.size, 0, none⟩ 1 1 [.int .i64 (x : Int), .int .u64 (bn : Int), .int .u64 (bw : Int), .slice A4 n4 c4] (by kernel_rfl) rfl hnew.out (by simp [Value.oneCell']) (by simp only [maxLen]; omega) (by omega) (by have := T6.out.size; have := HS1.out; omega) ?_
      intro v' w7 O7 g7 e7
      obtain ⟨A7, c7, rfl, _, _⟩ := own_shape O7
      have hs1 : ∀ q, (Value.slice A n c).ownBlock = some q → x0 + 2 ≤ q := fun q hq => (own_cells HO.out q hq).1
      have hnx : ∀ y, y < x0 + 2 → some y ≠ (Value.slice A n c).ownBlock := fun y hy e => by have := hs1 y e.symm; omega
      have hwbn : some wb ≠ (Value.slice A n c).ownBlock := fun e => by
        obtain ⟨_, o, ho, _⟩ := own_cells HO.out wb e.symm
        have := (Array.getElem?_eq_some_iff.1 ho).1
        have := HWB.out
        omega
      have S7 : w7.cell? ⟨x0, 0, none⟩ = some (.pointer (some ⟨g, 0, none⟩)) ∧ Blk w7 wb 80 [.int .u64 (bw : Int), .bool bc, .bool bs, .int .u64 (bn : Int), .int .i64 (bx : Int)] := ⟨(E6.out.grown g7 (hnx x0 (by omega))).cell 0, D6.out.grown g7 hwbn⟩
      have L7 := Lib.hid (L6.out.grown g7 (hnx (x0 + 1) (by omega)))
      have E7 := Lib.hid (E6.out.grown g7 (hnx x0 (by omega)))
      have G7 := Lib.hid g7
      have Q7 := Lib.hid O7
      have Z7 := Lib.hid e7
      refine hK.out _ _ S7 (fun _ => ?_)
      clear hK K O7 g7 e7
      refine wpAnyH_ready (rs := [12]) (by kernel_rfl) (by simp) (AllReadyH.cons rfl (fun K hK => ?_) AllReadyH.nil)
      have cs1 := L7.out.cell 0
      have fs1 := L7.out.free 0
      simp only [List.getElem?_cons_zero] at cs1
      go_simp
      have S8 : (w7.setCell ⟨x0 + 1, 0, none⟩ (.slice A7 (n + 1) c7)).cell? ⟨x0, 0, none⟩ = some (.pointer (some ⟨g, 0, none⟩)) ∧ Blk (w7.setCell ⟨x0 + 1, 0, none⟩ (.slice A7 (n + 1) c7)) wb 80 [.int .u64 (bw : Int), .bool bc, .bool bs, .int .u64 (bn : Int), .int .i64 (bx : Int)] := ⟨(E7.out.other _ _ (by simp)).cell 0, S7.2.other _ _ (by have := HWB.out; have := HS1.out; simp; omega)⟩
      refine hK.out _ _ S8 (fun _ => ?_)
      clear hK K cs1 fs1
      refine wpAnyH_done (by kernel_rfl) ?_ _
      have gs8 := grown_setg w7 (x0 + 1) 0 (.slice A7 (n + 1) c7)
      have hs17 : ∀ q, (Value.slice A7 (n + 1) c7).ownBlock = some q → x0 + 2 ≤ q := fun q hq => (own_cells Q7.out q hq).1
      have hko : ∀ r, (Value.slice A n c).ownBlock = some r → ∃ o : Obj, (w5.alloc (.cells #[.int .i64 (x : Int), .int .u64 (bn : Int), .int .u64 (bw : Int), .slice A4 n4 c4] 51)).heap[r]? = some o ∧ o.isCells = true := fun r hr => (own_cells O6.out r hr).2
      have kt7 : KT (w5.alloc (.cells #[.int .i64 (x : Int), .int .u64 (bn : Int), .int .u64 (bw : Int), .slice A4 n4 c4] 51)) w7 := by
        cases hq : (Value.slice A n c).ownBlock with
        | none => exact ⟨G7.out.size, fun k2 cs2 hb2 => Blk.grown hb2 G7.out (by rw [hq]; simp)⟩
        | some r =>
          obtain ⟨cs2, hcs2⟩ := own_typed O6.out r hq
          have := G7.out
          rw [hq] at this
          exact KT.grown this hcs2 (by decide)
      refine ⟨((ko_below T6.out).trans (ko_grown G7.out hko)).trans (KeepsOthers.setCell _ _ _), ((KT.below T6.out).trans kt7).trans (KT.grown gs8 (show w7.heap[x0 + 1]? = _ from L7.out) (by decide)), E7.out.other _ _ (by simp), ?_⟩
      have hsz5 := T5.out.size
      have hszb := HWB.out
      have hs1l := HS1.out
      have hV1s : V1.heap.size = wb + 1 := HV1S.out
      have hbr : ∀ q, (Value.slice A4 n4 c4).ownBlock = some q → V1.heap.size ≤ q ∧ q < w5.heap.size := fun q hq => P4.out.lt q hq
      have hbo : ∀ q, (Value.slice A n c).ownBlock = some q → q < W.heap.size := fun q hq => (HO.out.lt q hq).2
      have hbs : ∀ u ∈ rs, ∀ q, u.ownBlock = some q → x0 + 2 ≤ q ∧ q < W.heap.size := fun u hu q hq => by
        obtain ⟨h1, o, ho, _⟩ := HPS.out.blocks u hu q hq
        exact ⟨h1, (Array.getElem?_eq_some_iff.1 ho).1⟩
      refine ⟨⟨A7, n + 1, c7, rs ++ [.slice A4 n4 c4], by rw [HT.out, List.length_append, ← HN.out]; rfl, L7.out.set 0 _, ?_, ?_, ?_⟩, ?_⟩
      · rw [HT.out, segRows_snoc Bs _ _ _ _ HPS.out.length, HSR.out]
        exact Q7.out.kept gs8 (by
          cases hq : (Value.slice A7 (n + 1) c7).ownBlock with
          | none => exact Or.inl rfl
          | some q => exact Or.inr (by have := hs17 q hq; simp; omega))
      · rw [HT.out]
        have p1 := (HPS.out.kept (only_of_below T6.out none) (fun u hu r e => by cases e)).kept G7.out (fun u hu r e q => HNE.out r e u hu q)
        have p2 := p1.kept gs8 (fun u hu r e q => by cases e; have := (hbs u hu _ q).1; omega)
        refine p2.snoc ⟨A4, c4, by rw [← HN4.out], ?_⟩
        have q1 := P6.out.kept G7.out (by
          cases hq : (Value.slice A4 n4 c4).ownBlock with
          | none => exact Or.inl rfl
          | some q => exact Or.inr (fun e => by have := hbo q e.symm; have := (hbr q hq).1; omega))
        have q2 := q1.kept gs8 (by
          cases hq : (Value.slice A4 n4 c4).ownBlock with
          | none => exact Or.inl rfl
          | some q => exact Or.inr (by have := (hbr q hq).1; simp; omega))
        rw [← HN4.out]
        exact own_lower q2 (by show x0 + 2 ≤ V1.heap.size; omega)
      · intro q hq u hu e
        rcases List.mem_append.1 hu with hu | hu
        · rcases Z7.out with z | z
          · exact HNE.out q (by rw [← z]; exact hq) u hu e
          · rw [hq] at z
            have := (hbs u hu q e).2
            have hz := Option.some.inj z
            have := hw6.out
            omega
        · rw [List.mem_singleton.1 hu] at e
          rcases Z7.out with z | z
          · have := hbo q (by rw [← z]; exact hq)
            have := (hbr q e).1
            omega
          · rw [hq] at z
            have := (hbr q e).2
            have hz := Option.some.inj z
            have := hw6.out
            omega
      · have hb7 : Below w.heap.size w w7 := (Q1.out.below.trans (T6.out.mono Q1.out.below.size)).grown G7.out (Nat.le_trans Q1.out.below.size T6.out.size) (fun k2 e => by have := hs1 k2 e; have := HX0.out; omega)
        exact hb7.grown gs8 hb7.size (fun k2 e => by cases e; have := HX0.out; omega)
    · go_simp
      ((with_reducible refine KRC.out.mono ?_); rintro e w5 ⟨A4, n4, c4, rfl, hn4, hO4, b5'⟩)
      have b5 : Below V1.heap.size V1 w5 := (Below.refl _ V1).drew.trans b5'
      have S5 : w5.cell? ⟨x0, 0, none⟩ = some (.pointer (some ⟨g, 0, none⟩)) ∧ Blk w5 wb 80 [.int .u64 (bw : Int), .bool bc, .bool bs, .int .u64 (bn : Int), .int .i64 (bx : Int)] := ⟨((Q0.out.after b3.out).after b5).cell 0, BB.out.after b5⟩
      have T5 := Lib.hid (b3.out.trans (b5.mono b3.out.size))
      have P4 := Lib.hid hO4
      have HN4 := Lib.hid hn4
      have HBB := Lib.hid b5.size
      refine hK.out _ _ S5 (fun _ => ?_)
      clear hK K KRC hO4 hn4 b5 b5'
      refine wpAnyH_take (i := 9) (v := .agg #[.int .i64 (x : Int), .int .u64 (bn : Int), .int .u64 (bw : Int), .slice A4 n4 c4]) rfl (by kernel_rfl) (by kernel_rfl) (by kernel_rfl) (fun _ _ _ h => h) (Or.inl ⟨by kernel_rfl, fun w _ => by go_simp⟩) S5 ?_
      refine wpAnyH_ready (rs := [0, 10]) (by kernel_rfl) (by simp) (AllReadyH.cons rfl (fun K hK => ?_) (AllReadyH.cons rfl (fun K hK => ?_) AllReadyH.nil))
      · have cl0 : (w5).cell? ⟨x0 + 1, 0, none⟩ = some (.slice A n c) := (BL.out.after T5.out).cell 0
        go_simp
        refine hK.out _ _ S5 (fun _ => ?_)
        clear hK K cl0
        refine wpAnyH_ready (rs := [10]) (by kernel_rfl) (by simp) (AllReadyH.cons rfl (fun K hK => ?_) AllReadyH.nil)
        go_simp
        have S6 : (w5.alloc (.cells #[.int .i64 (x : Int), .int .u64 (bn : Int), .int .u64 (bw : Int), .slice A4 n4 c4] 51)).cell? ⟨x0, 0, none⟩ = some (.pointer (some ⟨g, 0, none⟩)) ∧ Blk (w5.alloc (.cells #[.int .i64 (x : Int), .int .u64 (bn : Int), .int .u64 (bw : Int), .slice A4 n4 c4] 51)) wb 80 [.int .u64 (bw : Int), .bool bc, .bool bs, .int .u64 (bn : Int), .int .i64 (bx : Int)] := ⟨((Q0.out.after T5.out).alloc _).cell 0, S5.2.alloc _⟩
        refine hK.out _ _ S6 (fun _ => ?_)
        clear hK K
        have T6 := Lib.hid (T5.out.alloc T5.out.size (.cells #[.int .i64 (x : Int), .int .u64 (bn : Int), .int .u64 (bw : Int), .slice A4 n4 c4] 51))
        have O6 := Lib.hid (HO.out.kept (only_of_below T6.out none) (by cases A <;> simp [Value.ownBlock]))
        have L6 := Lib.hid (BL.out.after T6.out)
        have D6 := Lib.hid (S6.2)
        have E6 := Lib.hid (Q0.out.after T6.out)
        have P6 := Lib.hid (World.ownsRow.alloc P4.out (.cells #[.int .i64 (x : Int), .int .u64 (bn : Int), .int .u64 (bw : Int), .slice A4 n4 c4] 51))
        have hnew := Lib.hid (sg_new w5 (.int .i64 (x : Int)) (.int .u64 (bn : Int)) (.int .u64 (bw : Int)) (.slice A4 n4 c4))
        have hw6 := Lib.hid (show (w5.alloc (.cells #[.int .i64 (x : Int), .int .u64 (bn : Int), .int .u64 (bw : Int), .slice A4 n4 c4] 51)).heap.size = w5.heap.size + 1 from World.size_alloc _ _)
        have hw5 := Lib.hid (show w5.heap.size = w5.heap.size from rfl)
        refine wpAnyH_ready (rs := [11]) (by kernel_rfl) (by simp) (AllReadyH.cons rfl (fun K hK => ?_) AllReadyH.nil)
        rw [if_pos (by kernel_rfl)]
        refine op_append (.tmp 16) (.tmp 26) 47 (by kernel_rfl) (x0 + 2) 51 i0 _ 4 48 Tryz.underlying47 hi hz0 hz1 hz2 rfl (by omega) _ n _ (by kernel_rfl) O6.out ⟨w5.heap.size, 0, none⟩ 1 1 [.int .i64 (x : Int), .int .u64 (bn : Int), .int .u64 (bw : Int), .slice A4 n4 c4] (by kernel_rfl) rfl hnew.out (by simp [Value.oneCell']) (by simp only [maxLen]; omega) (by omega) (by have := T6.out.size; have := HS1.out; omega) ?_
        intro v' w7 O7 g7 e7
        obtain ⟨A7, c7, rfl, _, _⟩ := own_shape O7
        have hs1 : ∀ q, (Value.slice A n c).ownBlock = some q → x0 + 2 ≤ q := fun q hq => (own_cells HO.out q hq).1
        have hnx : ∀ y, y < x0 + 2 → some y ≠ (Value.slice A n c).ownBlock := fun y hy e => by have := hs1 y e.symm; omega
        have hwbn : some wb ≠ (Value.slice A n c).ownBlock := fun e => by
          obtain ⟨_, o, ho, _⟩ := own_cells HO.out wb e.symm
          have := (Array.getElem?_eq_some_iff.1 ho).1
          have := HWB.out
          omega
        have S7 : w7.cell? ⟨x0, 0, none⟩ = some (.pointer (some ⟨g, 0, none⟩)) ∧ Blk w7 wb 80 [.int .u64 (bw : Int), .bool bc, .bool bs, .int .u64 (bn : Int), .int .i64 (bx : Int)] := ⟨(E6.out.grown g7 (hnx x0 (by omega))).cell 0, D6.out.grown g7 hwbn⟩
        have L7 := Lib.hid (L6.out.grown g7 (hnx (x0 + 1) (by omega)))
        have E7 := Lib.hid (E6.out.grown g7 (hnx x0 (by omega)))
        have G7 := Lib.hid g7
        have Q7 := Lib.hid O7
        have Z7 := Lib.hid e7
        refine hK.out _ _ S7 (fun _ => ?_)
        clear hK K O7 g7 e7
        refine wpAnyH_ready (rs := [12]) (by kernel_rfl) (by simp) (AllReadyH.cons rfl (fun K hK => ?_) AllReadyH.nil)
        have cs1 := L7.out.cell 0
        have fs1 := L7.out.free 0
        simp only [List.getElem?_cons_zero] at cs1
        go_simp
        have S8 : (w7.setCell ⟨x0 + 1, 0, none⟩ (.slice A7 (n + 1) c7)).cell? ⟨x0, 0, none⟩ = some (.pointer (some ⟨g, 0, none⟩)) ∧ Blk (w7.setCell ⟨x0 + 1, 0, none⟩ (.slice A7 (n + 1) c7)) wb 80 [.int .u64 (bw : Int), .bool bc, .bool bs, .int .u64 (bn : Int), .int .i64 (bx : Int)] := ⟨(E7.out.other _ _ (by simp)).cell 0, S7.2.other _ _ (by have := HWB.out; have := HS1.out; simp; omega)⟩
        refine hK.out _ _ S8 (fun _ => ?_)
        clear hK K cs1 fs1
        refine wpAnyH_done (by kernel_rfl) ?_ _
        have gs8 := grown_setg w7 (x0 + 1) 0 (.slice A7 (n + 1) c7)
        have hs17 : ∀ q, (Value.slice A7 (n + 1) c7).ownBlock = some q → x0 + 2 ≤ q := fun q hq => (own_cells Q7.out q hq).1
        have hko : ∀ r, (Value.slice A n c).ownBlock = some r → ∃ o : Obj, (w5.alloc (.cells #[.int .i64 (x : Int), .int .u64 (bn : Int), .int .u64 (bw : Int), .slice A4 n4 c4] 51)).heap[r]? = some o ∧ o.isCells = true := fun r hr => (own_cells O6.out r hr).2
        have kt7 : KT (w5.alloc (.cells #[.int .i64 (x : Int), .int .u64 (bn : Int), .int .u64 (bw : Int), .slice A4 n4 c4] 51)) w7 := by
          cases hq : (Value.slice A n c).ownBlock with
          | none => exact ⟨G7.out.size, fun k2 cs2 hb2 => Blk.grown hb2 G7.out (by rw [hq]; simp)⟩
          | some r =>
            obtain ⟨cs2, hcs2⟩ := own_typed O6.out r hq
            have := G7.out
            rw [hq] at this
            exact KT.grown this hcs2 (by decide)
        refine ⟨((ko_below T6.out).trans (ko_grown G7.out hko)).trans (KeepsOthers.setCell _ _ _), ((KT.below T6.out).trans kt7).trans (KT.grown gs8 (show w7.heap[x0 + 1]? = _ from L7.out) (by decide)), E7.out.other _ _ (by simp), ?_⟩
        have hsz5 := T5.out.size
        have hszb := HWB.out
        have hs1l := HS1.out
        have hV1s : V1.heap.size = wb + 1 := HV1S.out
        have hbr : ∀ q, (Value.slice A4 n4 c4).ownBlock = some q → V1.heap.size ≤ q ∧ q < w5.heap.size := fun q hq => P4.out.lt q hq
        have hbo : ∀ q, (Value.slice A n c).ownBlock = some q → q < W.heap.size := fun q hq => (HO.out.lt q hq).2
        have hbs : ∀ u ∈ rs, ∀ q, u.ownBlock = some q → x0 + 2 ≤ q ∧ q < W.heap.size := fun u hu q hq => by
          obtain ⟨h1, o, ho, _⟩ := HPS.out.blocks u hu q hq
          exact ⟨h1, (Array.getElem?_eq_some_iff.1 ho).1⟩
        refine ⟨⟨A7, n + 1, c7, rs ++ [.slice A4 n4 c4], by rw [HT.out, List.length_append, ← HN.out]; rfl, L7.out.set 0 _, ?_, ?_, ?_⟩, ?_⟩
        · rw [HT.out, segRows_snoc Bs _ _ _ _ HPS.out.length, HSR.out]
          exact Q7.out.kept gs8 (by
            cases hq : (Value.slice A7 (n + 1) c7).ownBlock with
            | none => exact Or.inl rfl
            | some q => exact Or.inr (by have := hs17 q hq; simp; omega))
        · rw [HT.out]
          have p1 := (HPS.out.kept (only_of_below T6.out none) (fun u hu r e => by cases e)).kept G7.out (fun u hu r e q => HNE.out r e u hu q)
          have p2 := p1.kept gs8 (fun u hu r e q => by cases e; have := (hbs u hu _ q).1; omega)
          refine p2.snoc ⟨A4, c4, by rw [← HN4.out], ?_⟩
          have q1 := P6.out.kept G7.out (by
            cases hq : (Value.slice A4 n4 c4).ownBlock with
            | none => exact Or.inl rfl
            | some q => exact Or.inr (fun e => by have := hbo q e.symm; have := (hbr q hq).1; omega))
          have q2 := q1.kept gs8 (by
            cases hq : (Value.slice A4 n4 c4).ownBlock with
            | none => exact Or.inl rfl
            | some q => exact Or.inr (by have := (hbr q hq).1; simp; omega))
          rw [← HN4.out]
          exact own_lower q2 (by show x0 + 2 ≤ V1.heap.size; omega)
        · intro q hq u hu e
          rcases List.mem_append.1 hu with hu | hu
          · rcases Z7.out with z | z
            · exact HNE.out q (by rw [← z]; exact hq) u hu e
            · rw [hq] at z
              have := (hbs u hu q e).2
              have hz := Option.some.inj z
              have := hw6.out
              omega
          · rw [List.mem_singleton.1 hu] at e
            rcases Z7.out with z | z
            · have := hbo q (by rw [← z]; exact hq)
              have := (hbr q e).1
              omega
            · rw [hq] at z
              have := (hbr q e).2
              have hz := Option.some.inj z
              have := hw6.out
              omega
        · have hb7 : Below w.heap.size w w7 := (Q1.out.below.trans (T6.out.mono Q1.out.below.size)).grown G7.out (Nat.le_trans Q1.out.below.size T6.out.size) (fun k2 e => by have := hs1 k2 e; have := HX0.out; omega)
          exact hb7.grown gs8 hb7.size (fun k2 e => by cases e; have := HX0.out; omega)
      · go_simp
        have S6 : (w5.alloc (.cells #[.int .i64 (x : Int), .int .u64 (bn : Int), .int .u64 (bw : Int), .slice A4 n4 c4] 51)).cell? ⟨x0, 0, none⟩ = some (.pointer (some ⟨g, 0, none⟩)) ∧ Blk (w5.alloc (.cells #[.int .i64 (x : Int), .int .u64 (bn : Int), .int .u64 (bw : Int), .slice A4 n4 c4] 51)) wb 80 [.int .u64 (bw : Int), .bool bc, .bool bs, .int .u64 (bn : Int), .int .i64 (bx : Int)] := ⟨((Q0.out.after T5.out).alloc _).cell 0, S5.2.alloc _⟩
        refine hK.out _ _ S6 (fun _ => ?_)
        clear hK K
        refine wpAnyH_ready (rs := [0]) (by kernel_rfl) (by simp) (AllReadyH.cons rfl (fun K hK => ?_) AllReadyH.nil)
        have cl0 : (w5.alloc (.cells #[.int .i64 (x : Int), .int .u64 (bn : Int), .int .u64 (bw : Int), .slice A4 n4 c4] 51)).cell? ⟨x0 + 1, 0, none⟩ = some (.slice A n c) := ((BL.out.after T5.out).alloc _).cell 0
        go_simp
        refine hK.out _ _ S6 (fun _ => ?_)
        clear hK K cl0
        have T6 := Lib.hid (T5.out.alloc T5.out.size (.cells #[.int .i64 (x : Int), .int .u64 (bn : Int), .int .u64 (bw : Int), .slice A4 n4 c4] 51))
        have O6 := Lib.hid (HO.out.kept (only_of_below T6.out none) (by cases A <;> simp [Value.ownBlock]))
        have L6 := Lib.hid (BL.out.after T6.out)
        have D6 := Lib.hid (S6.2)
        have E6 := Lib.hid (Q0.out.after T6.out)
        have P6 := Lib.hid (World.ownsRow.alloc P4.out (.cells #[.int .i64 (x : Int), .int .u64 (bn : Int), .int .u64 (bw : Int), .slice A4 n4 c4] 51))
        have hnew := Lib.hid (sg_new w5 (.int .i64 (x : Int)) (.int .u64 (bn : Int)) (.int .u64 (bw : Int)) (.slice A4 n4 c4))
        have hw6 := Lib.hid (show (w5.alloc (.cells #[.int .i64 (x : Int), .int .u64 (bn : Int), .int .u64 (bw : Int), .slice A4 n4 c4] 51)).heap.size = w5.heap.size + 1 from World.size_alloc _ _)
        have hw5 := Lib.hid (show w5.heap.size = w5.heap.size from rfl)
        refine wpAnyH_ready (rs := [11]) (by kernel_rfl) (by simp) (AllReadyH.cons rfl (fun K hK => ?_) AllReadyH.nil)
        rw [if_pos (by kernel_rfl)]
        refine op_append (.tmp 16) (.tmp 26) 47 (by kernel_rfl) (x0 + 2) 51 i0 _ 4 48 Tryz.underlying47 hi hz0 hz1 hz2 rfl (by omega) _ n _ (by kernel_rfl) O6.out ⟨w5.heap.size, 0, none⟩ 1 1 [.int .i64 (x : Int), .int .u64 (bn : Int), .int .u64 (bw : Int), .slice A4 n4 c4] (by kernel_rfl) rfl hnew.out (by simp [Value.oneCell']) (by simp only [maxLen]; omega) (by omega) (by have := T6.out.size; have := HS1.out; omega) ?_
        intro v' w7 O7 g7 e7
        obtain ⟨A7, c7, rfl, _, _⟩ := own_shape O7
        have hs1 : ∀ q, (Value.slice A n c).ownBlock = some q → x0 + 2 ≤ q := fun q hq => (own_cells HO.out q hq).1
        have hnx : ∀ y, y < x0 + 2 → some y ≠ (Value.slice A n c).ownBlock := fun y hy e => by have := hs1 y e.symm; omega
        have hwbn : some wb ≠ (Value.slice A n c).ownBlock := fun e => by
          obtain ⟨_, o, ho, _⟩ := own_cells HO.out wb e.symm
          have := (Array.getElem?_eq_some_iff.1 ho).1
          have := HWB.out
          omega
        have S7 : w7.cell? ⟨x0, 0, none⟩ = some (.pointer (some ⟨g, 0, none⟩)) ∧ Blk w7 wb 80 [.int .u64 (bw : Int), .bool bc, .bool bs, .int .u64 (bn : Int), .int .i64 (bx : Int)] := ⟨(E6.out.grown g7 (hnx x0 (by omega))).cell 0, D6.out.grown g7 hwbn⟩
        have L7 := Lib.hid (L6.out.grown g7 (hnx (x0 + 1) (by omega)))
        have E7 := Lib.hid (E6.out.grown g7 (hnx x0 (by omega)))
        have G7 := Lib.hid g7
        have Q7 := Lib.hid O7
        have Z7 := Lib.hid e7
        refine hK.out _ _ S7 (fun _ => ?_)
        clear hK K O7 g7 e7
        refine wpAnyH_ready (rs := [12]) (by kernel_rfl) (by simp) (AllReadyH.cons rfl (fun K hK => ?_) AllReadyH.nil)
        have cs1 := L7.out.cell 0
        have fs1 := L7.out.free 0
        simp only [List.getElem?_cons_zero] at cs1
        go_simp
        have S8 : (w7.setCell ⟨x0 + 1, 0, none⟩ (.slice A7 (n + 1) c7)).cell? ⟨x0, 0, none⟩ = some (.pointer (some ⟨g, 0, none⟩)) ∧ Blk (w7.setCell ⟨x0 + 1, 0, none⟩ (.slice A7 (n + 1) c7)) wb 80 [.int .u64 (bw : Int), .bool bc, .bool bs, .int .u64 (bn : Int), .int .i64 (bx : Int)] := ⟨(E7.out.other _ _ (by simp)).cell 0, S7.2.other _ _ (by have := HWB.out; have := HS1.out; simp; omega)⟩
        refine hK.out _ _ S8 (fun _ => ?_)
        clear hK K cs1 fs1
        refine wpAnyH_done (by kernel_rfl) ?_ _
        have gs8 := grown_setg w7 (x0 + 1) 0 (.slice A7 (n + 1) c7)
        have hs17 : ∀ q, (Value.slice A7 (n + 1) c7).ownBlock = some q → x0 + 2 ≤ q := fun q hq => (own_cells Q7.out q hq).1
        have hko : ∀ r, (Value.slice A n c).ownBlock = some r → ∃ o : Obj, (w5.alloc (.cells #[.int .i64 (x : Int), .int .u64 (bn : Int), .int .u64 (bw : Int), .slice A4 n4 c4] 51)).heap[r]? = some o ∧ o.isCells = true := fun r hr => (own_cells O6.out r hr).2
        have kt7 : KT (w5.alloc (.cells #[.int .i64 (x : Int), .int .u64 (bn : Int), .int .u64 (bw : Int), .slice A4 n4 c4] 51)) w7 := by
          cases hq : (Value.slice A n c).ownBlock with
          | none => exact ⟨G7.out.size, fun k2 cs2 hb2 => Blk.grown hb2 G7.out (by rw [hq]; simp)⟩
          | some r =>
            obtain ⟨cs2, hcs2⟩ := own_typed O6.out r hq
            have := G7.out
            rw [hq] at this
            exact KT.grown this hcs2 (by decide)
        refine ⟨((ko_below T6.out).trans (ko_grown G7.out hko)).trans (KeepsOthers.setCell _ _ _), ((KT.below T6.out).trans kt7).trans (KT.grown gs8 (show w7.heap[x0 + 1]? = _ from L7.out) (by decide)), E7.out.other _ _ (by simp), ?_⟩
        have hsz5 := T5.out.size
        have hszb := HWB.out
        have hs1l := HS1.out
        have hV1s : V1.heap.size = wb + 1 := HV1S.out
        have hbr : ∀ q, (Value.slice A4 n4 c4).ownBlock = some q → V1.heap.size ≤ q ∧ q < w5.heap.size := fun q hq => P4.out.lt q hq
        have hbo : ∀ q, (Value.slice A n c).ownBlock = some q → q < W.heap.size := fun q hq => (HO.out.lt q hq).2
        have hbs : ∀ u ∈ rs, ∀ q, u.ownBlock = some q → x0 + 2 ≤ q ∧ q < W.heap.size := fun u hu q hq => by
          obtain ⟨h1, o, ho, _⟩ := HPS.out.blocks u hu q hq
          exact ⟨h1, (Array.getElem?_eq_some_iff.1 ho).1⟩
        refine ⟨⟨A7, n + 1, c7, rs ++ [.slice A4 n4 c4], by rw [HT.out, List.length_append, ← HN.out]; rfl, L7.out.set 0 _, ?_, ?_, ?_⟩, ?_⟩
        · rw [HT.out, segRows_snoc Bs _ _ _ _ HPS.out.length, HSR.out]
          exact Q7.out.kept gs8 (by
            cases hq : (Value.slice A7 (n + 1) c7).ownBlock with
            | none => exact Or.inl rfl
            | some q => exact Or.inr (by have := hs17 q hq; simp; omega))
        · rw [HT.out]
          have p1 := (HPS.out.kept (only_of_below T6.out none) (fun u hu r e => by cases e)).kept G7.out (fun u hu r e q => HNE.out r e u hu q)
          have p2 := p1.kept gs8 (fun u hu r e q => by cases e; have := (hbs u hu _ q).1; omega)
          refine p2.snoc ⟨A4, c4, by rw [← HN4.out], ?_⟩
          have q1 := P6.out.kept G7.out (by
            cases hq : (Value.slice A4 n4 c4).ownBlock with
            | none => exact Or.inl rfl
            | some q => exact Or.inr (fun e => by have := hbo q e.symm; have := (hbr q hq).1; omega))
          have q2 := q1.kept gs8 (by
            cases hq : (Value.slice A4 n4 c4).ownBlock with
            | none => exact Or.inl rfl
            | some q => exact Or.inr (by have := (hbr q hq).1; simp; omega))
          rw [← HN4.out]
          exact own_lower q2 (by show x0 + 2 ≤ V1.heap.size; omega)
        · intro q hq u hu e
          rcases List.mem_append.1 hu with hu | hu
          · rcases Z7.out with z | z
            · exact HNE.out q (by rw [← z]; exact hq) u hu e
            · rw [hq] at z
              have := (hbs u hu q e).2
              have hz := Option.some.inj z
              have := hw6.out
              omega
          · rw [List.mem_singleton.1 hu] at e
            rcases Z7.out with z | z
            · have := hbo q (by rw [← z]; exact hq)
              have := (hbr q e).1
              omega
            · rw [hq] at z
              have := (hbr q e).2
              have hz := Option.some.inj z
              have := hw6.out
              omega
        · have hb7 : Below w.heap.size w w7 := (Q1.out.below.trans (T6.out.mono Q1.out.below.size)).grown G7.out (Nat.le_trans Q1.out.below.size T6.out.size) (fun k2 e => by have := hs1 k2 e; have := HX0.out; omega)
          exact hb7.grown gs8 hb7.size (fun k2 e => by cases e; have := HX0.out; omega)
  case done =>
    rintro D W hD ⟨q1, q2⟩ hK
    rw [List.take_length] at q2
    obtain ⟨A, n, c, rs, hnl, hl, hO, hP, hne⟩ := q2.ex
    have c1 := hl.cell 0
    simp only [List.getElem?_cons_zero] at c1
    have HB := Lib.hid q2.below
    have HK := Lib.hid hK
    have HD := Lib.hid (show w.heap.size ≤ D from Nat.le_trans b2.out.size hD)
    subst hnl
    have HO := Lib.hid hO
    have HPS := Lib.hid hP
    clear q1 q2 hK hl hO hP hne
    go_wp2
    refine ⟨by simp, .inl ⟨_, _, rfl, run_takeDeferred (by exact HK.out), ?_⟩⟩
    have hg : W.grownBy (W.putObj D (.deferred none)) (some D) := grownBy_putObj' W D (.deferred none)
    have hno : ∀ g, (∃ o : Obj, W.heap[g]? = some o ∧ o.isCells = true) → g ≠ D := fun g ⟨o, ho, hc⟩ e => by subst e; rw [HK.out] at ho; cases ho; cases hc
    refine ⟨_, results_tmp rfl _ _ _, A, c, rs, rfl, own_lower (HO.out.kept hg ?_) (by have := HX0.out; omega), ?_, HB.out.trans (belowK_b (w := w) (Nat.le_refl _) _ D _ _ HD.out (by exact HK.out) rfl rfl)⟩
    · cases e : (Value.slice A os.length c).ownBlock with
      | none => exact Or.inl rfl
      | some g => exact Or.inr (fun q => hno g (own_cells HO.out g e).2 (by cases q; rfl))
    · exact PlsS.lower (by have := HX0.out; omega) (HPS.out.kept hg (fun v hv r e q => by cases e; exact hno _ (HPS.out.blocks v hv _ q).2 rfl))
end
end Go.Proofs.YtdiocjneakfdgaaGreatDoor

