/- Several texts of the proof, joined: what each has is said at its head. -/
import Derived.Test.YtdiocjneakfdgaaGreatDoorQLogB
import Derived.Test.YtdiocjneakfdgaaGreatDoorQRepeat
import Derived.Test.YtdiocjneakfdgaaGreatDoorQCore
import Derived.Laws.Cover3
import Derived.Test.YtdiocjneakfdgaaGreatDoorQFrame
import Derived.Test.YtdiocjneakfdgaaGreatDoorQDiskC
/- Is a log's block clear? Condition: the log is there. -/
namespace Go.Proofs.YtdiocjneakfdgaaGreatDoor
open Go.RowKit
section
variable {w : World} {g h d t : Nat} {a : At} {X : DS} {N K : Nat} {Bs : List LB} {num : Nat} {os : List Nat}
theorem aggPg : ∀ w, (isAgg 92).run Tryz.prog w = .ok true w := fun _ => by kernel_rfl
theorem sizePg : ∀ w, (sizeOf 92).run Tryz.prog w = .ok 258 w := fun _ => by kernel_rfl
theorem ff_bv : bv NM.ff = List.replicate 258 (Value.int .u8 255) := by kernel_rfl
theorem FB.page {w : World} {gn cap : Nat} (h : FB w gn 258 cap) : ∀ j u, (bv NM.ff)[j]? = some u → w.cell? ((⟨gn, 0, none⟩ : Addr).add j) = some u := fun j u hu => by
  rw [ff_bv, List.getElem?_replicate] at hu
  split at hu
  · cases hu
    have ha : (⟨gn, 0, none⟩ : Addr).add j = ⟨gn, j, none⟩ := by unfold Addr.add; split <;> simp_all
    rw [ha]
    exact h.cell ‹_›
  · cases hu
theorem neqPage {L M : List UInt8} (hL : L.length = 258) (hM : M.length = 258) (w : World) : (Op.equalIn 10000 92 (.agg (cl L)) (.agg (cl M))).run Tryz.prog w = .ok (decide (L = M)) w := equalIn_pcl hL hM w
set_option maxRecDepth 100000 in
set_option maxHeartbeats 8000000 in
theorem isClean_yes (l : Lg w g h d t a X N K Bs num) {x : Nat} {b : LB} (hb : Bs[x]? = some b) (hc : b.clr = true) (hp : ∀ k, 1 ≤ k → k < 8 → (X.blk x).pg.getD k [] = NM.ff) :
    Calls Tryz.prog 63 #[.pointer (some ⟨g, 0, none⟩), .int .i64 (x : Int)] w fun e w' => e = .returned (.tuple #[.bool true, .int .i64 0]) ∧ Below w.heap.size w w' := by
  have z := zeroPage
  have hn := l.n
  obtain ⟨c0, c1, c2⟩ := l.cells
  obtain ⟨k0, k1, k2, k3, k4⟩ := l.cell hb
  have hxl : x < N - 6 := by have := get_lt hb; rw [l.len] at this; exact this
  have HL := Lib.hid l
  have HXL := Lib.hid hxl
  have HP := Lib.hid hp
  obtain ⟨M, hM⟩ : ∃ M, N - 6 = M := ⟨_, rfl⟩
  have hM40 : M ≤ 40 := by omega
  rw [hM] at c1 hxl
  rw [hc] at k1
  have b1 := Lib.hid ((Below.refl w.heap.size w).alloc (Nat.le_refl _) (.cells #[.int .u8 255] 5))
  have KRp := Lib.hid (repeat_any (w.alloc (.cells #[.int .u8 255] 5)) ⟨w.heap.size, 0, none⟩ 1 (by simp) (by
    have := (Blk.new w 5 [.int .u8 255]).cell 0
    exact this))
  have HFF := Lib.hid (show NM.ff.length = 258 from ff_length)
  have HBF := Lib.hid (show (bv NM.ff).length = 258 by rw [bv_length]; exact ff_length)
  have HCF := Lib.hid (show (bv NM.ff).toArray = cl NM.ff from rfl)
  have HEQ := Lib.hid (show ∀ w, (Op.equalIn 10000 92 (.agg (cl NM.ff)) (.agg (cl NM.ff))).run Tryz.prog w = .ok true w from fun w => by rw [neqPage ff_length ff_length w, decide_eq_true rfl])
  have HFP := Lib.hid (fun (w : World) (gn cap : Nat) (h : FB w gn 258 cap) => h.page)
  obtain ⟨ff, hff⟩ : ∃ ff, NM.ff = ff := ⟨_, rfl⟩
  rw [hff] at HP HFF HBF HCF HEQ HFP
  clear l hM k0 k2 k3 k4 c0 c2 hb hc hp hff
  go_enter Tryz.func63, Tryz.ntmps63
  have hEq := HEQ.out
  go_wp2_with (first
    | (go_at_call 87; ((with_reducible refine KRp.out.mono ?_); rintro e w2 ⟨gn, cap, rfl, F2, b2⟩; have B2 := Lib.hid (b1.out.trans (b2.mono b1.out.size)); have hat := run_arrayAt (P := Tryz.prog) w2 92 _ 258 (some ⟨gn, 0, none⟩) 258 258 Tryz.underlying92 (Nat.le_refl _); have FP := Lib.hid (HFP.out w2 gn cap F2); have N1 := PArr.new w2 pzeros_length; clear KRp b2 F2))
    | ((with_reducible refine wpl_cells aggPg sizePg (.tmp 21) rfl rfl rfl HBF.out FP.out ?_); rw [HCF.out])
    | (with_reducible refine wpl_pstore (.tmp 6) (.tmp 22) rfl rfl N1 rfl HFF.out rfl ?_; intro w3 P3 g3 e3; have B3 := Lib.hid ((B2.out.alloc B2.out.size (.cells (cl pzeros) 92)).grown g3 (by rw [World.size_alloc]; have := B2.out.size; omega) (fun k e => by cases e; exact B2.out.size)); clear N1 g3 e3))
  obtain ⟨q, hq⟩ : ∃ q, w2.heap.size = q := ⟨_, rfl⟩
  rw [hq] at P3 ⊢
  have HP3 := Lib.hid P3
  clear hat FP B2 P3 hq
  go_loopw [7, 8, 9] (fun vk _ _ wr => ∃ k : Nat, vk = .int .i64 (k : Int) ∧ 1 ≤ k ∧ k ≤ 8 ∧ Hid (PArr wr q ff) ∧ Hid (Below w.heap.size w wr)) (fun vk _ _ _ => 8 - (intOf vk).toNat)
  case atStart => exact ⟨1, rfl, by omega, by omega, HP3, B3⟩
  case round =>
    obtain ⟨k, rfl, hk1, hk8, PK, BK⟩ := hrel
    by_cases hlt : k < 8
    · have L1 := Lib.hid (HL.out.after BK.out)
      obtain ⟨q0, _, _⟩ := L1.out.cells
      have KR := Lib.hid (L1.out.dk.read HXL.out (k := k) hlt)
      rw [HP.out k hk1 hlt] at KR
      go_wp2_with (first
        | (go_at_call 52; ((with_reducible refine KR.out.mono ?_); rintro e w5 ⟨rfl, b5⟩; have B5 := Lib.hid (BK.out.trans (b5.mono BK.out.size)); have N5 := PArr.new w5 pzeros_length; have P5 := (PK.out.after b5).alloc (.cells (cl pzeros) 92); have hq5 := Lib.hid (PK.out.after b5).lt; clear KR b5))
        | (with_reducible refine wpl_pstore (.tmp 8) (.tmp 35) rfl rfl N5 rfl HFF.out rfl ?_; intro w6 N6 g6 e6; have B6 := Lib.hid ((B5.out.alloc B5.out.size (.cells (cl pzeros) 92)).grown g6 (by rw [World.size_alloc]; have := B5.out.size; omega) (fun k e => by cases e; exact B5.out.size)); have P6 := P5.grown g6 (by have := hq5.out; omega); clear N5 P5 g6 e6)
        | (with_reducible refine wpl_pload (.tmp 8) rfl rfl N6 rfl ?_)
        | (with_reducible refine wpl_pload (.tmp 6) rfl rfl P6 rfl ?_))
      go_roundw
      case rel => exact ⟨k + 1, by go_num, by omega, by omega, Lib.hid P6, B6⟩
      case measure => simp [intOf]; omega
    · obtain rfl : k = 8 := by omega
      go_wp2
      go_ret2
      exact ⟨rfl, BK.out⟩
end
end Go.Proofs.YtdiocjneakfdgaaGreatDoor

/- A log's numbers are written; its blocks are cleared. Condition: the log is in order; few calls so far. -/
namespace Go.Proofs.YtdiocjneakfdgaaGreatDoor
open Go.RowKit
section
variable {w : World} {g h d t : Nat} {a : At} {X : DS} {N C : Nat} {Bs : List LB} {num : Nat} {os : List Nat}
theorem num_write {kind : UInt8} (h0 : kind ≠ 0) (h1 : kind ≠ 255) (n : Nat) : (FM.writeM kind (numB 8 n)).1 = numP kind n ∧ (FM.writeM kind (numB 8 n)).2 = 0 := by
  unfold FM.writeM numP
  rw [if_neg (by rintro (q | q | q); exact h0 q; exact h1 q; rw [numB_length] at q; omega)]
  exact ⟨rfl, rfl⟩
/-- what a Program leaves of a log -/
structure Wrote (w w' : World) (g h d t : Nat) (a : At) (X X' : DS) (N C : Nat) (Bs : List LB) (num x : Nat) (L : List (List UInt8)) : Prop where
  lg : Lg w' g h d t a X' N C Bs num
  has : HasN (X'.blk x) L
  rest : ∀ y, y < N - 6 → y ≠ x → X'.blk y = X.blk y
  chg : Chg w w' (a.log t d g h)
set_option maxRecDepth 100000 in
set_option maxHeartbeats 8000000 in
theorem note_any (l : Lg w g h d t a X N C Bs num) {x k : Nat} (hx : x < N - 6) {L : List (List UInt8)} (hL : HasN (X.blk x) L) (hk : L.length = k) (h8 : k < 8) (hs : ∀ q ∈ L, IsRec q) (hC4 : C ≤ 4000) (kind : UInt8) (h0 : kind ≠ 0) (h1 : kind ≠ 255) (n : Nat) :
    Calls Tryz.prog 51 #[.pointer (some ⟨g, 0, none⟩), .int .i64 (x : Int), .int .i64 (k : Int), .int .u8 ((kind.toNat : Nat) : Int), .int .u64 (n : Int)] w fun e w' => e = .returned (.int .i64 0) ∧ ∃ X', Wrote w w' g h d t a X X' N (C + 5) Bs num x (L ++ [numP kind n]) := by
  have z := zeroPage
  subst hk
  have HL := Lib.hid l
  have HTab := Lib.hid l.dk.tab
  have HP := Lib.hid (fun (w' : World) (hl : Lg w' g h d t a X N C Bs num) => hl.dk.program hx hL h8 hs (numP_rec kind h0 h1 n) hC4)
  have HPL := Lib.hid (numP_rec kind h0 h1 n).length
  obtain ⟨k, hk⟩ : ∃ k, L.length = k := ⟨_, rfl⟩
  rw [hk] at HP h8 ⊢
  have k1 := num_any 8 n w
  rw [show wid 8 = 8 from rfl] at k1
  have HW := Lib.hid (num_write h0 h1 n)
  have HX := Lib.hid hx
  have hdl := Lib.hid (fun k hk => l.dk.lt k hk)
  clear l hL hs hk hx
  go_enter Tryz.func51, Tryz.ntmps51
  go_wp2_with fail
  ((with_reducible refine k1.mono ?_); rintro e w1 ⟨A1, c1, rfl, O1, b1⟩)
  have B1 := Lib.hid b1
  have Y1 := O1.bytes (by rw [numB_length]; simp [maxLen])
  have PA := Parts.new (Each.cons Y1 Each.nil) (Nat.le_refl _) (by simp [maxLen]) 1 rfl w1.heap.size rfl (w1.heap.size + 1) (by omega) 62 #[.slice A1 8 c1] rfl
  have b2 : Below w1.heap.size w1 (w1.alloc (.cells #[.slice A1 8 c1] 62)) := (Below.refl _ _).alloc (Nat.le_refl _) _
  have B2 := Lib.hid (B1.out.trans (b2.mono B1.out.size))
  have k2 := write_any kind _ _ _ (w1.heap.size + 1) (by simp) PA (HTab.out.below B2.out HTab.out.lt) (by simp [numB_length])
  rw [show [numB 8 n].flatten = numB 8 n by simp, HW.out.1, HW.out.2] at k2
  obtain ⟨p, hp⟩ : ∃ p, numP kind n = p := ⟨_, rfl⟩
  rw [hp] at k2 HP HPL
  have HPQ := Lib.hid hp
  have K2 := Lib.hid k2
  clear k1 k2 O1 b1 Y1 PA b2 hp HW
  go_wp2_with (first
    | (go_at_call 35; ((with_reducible refine K2.out.mono ?_); rintro e w3 ⟨rfl, b3⟩; have B3 := Lib.hid (B2.out.trans (b3.mono B2.out.size)); have N3 := PArr.new w3 pzeros_length; clear K2 b3))
    | (with_reducible refine wpl_pstore (.tmp 11) (.tmp 19) rfl rfl N3 rfl HPL.out rfl ?_; intro w4 N4 g4 e4; have B4 := Lib.hid ((B3.out.alloc B3.out.size (.cells (cl pzeros) 92)).grown g4 (by rw [World.size_alloc]; have := B3.out.size; omega) (fun k e => by cases e; exact B3.out.size)); clear N3 g4 e4))
  obtain ⟨q, hq⟩ : ∃ q, w3.heap.size = q := ⟨_, rfl⟩
  have HQ := Lib.hid (show w.heap.size ≤ q by rw [← hq]; exact B3.out.size)
  rw [hq] at N4 ⊢
  have L4 := Lib.hid (HL.out.after B4.out)
  have S0 : w4.drew.cell? ⟨g, 0, none⟩ = some (.pointer (some ⟨d, 0, none⟩)) ∧ PArr w4.drew q p := ⟨L4.out.cells.1, N4⟩
  have KP := Lib.hid (HP.out w4.drew (L4.out.after (Below.refl _ _).drew))
  have HK2 := Lib.hid N4
  clear HP HL HTab hq N4
  refine wp_region_held_drew (S := (fun w' => w'.cell? ⟨g, 0, none⟩ = some (.pointer (some ⟨d, 0, none⟩)) ∧ PArr w' q p)) (by kernel_rfl) S0 (fun _ => ?_)
  refine wpAnyH_take (i := 0) (v := .pointer (some ⟨g, 0, none⟩)) rfl (by kernel_rfl) (by kernel_rfl) (by kernel_rfl) (fun _ _ _ h => h) (Or.inl ⟨by kernel_rfl, fun w _ => by go_simp⟩) S0 ?_
  refine wpAnyH_take (i := 1) (v := .pointer (some ⟨g, 0, none⟩)) rfl (by kernel_rfl) (by kernel_rfl) (by kernel_rfl) (fun _ _ _ h => h) (Or.inl ⟨by kernel_rfl, fun w _ => by go_simp⟩) S0 ?_
  refine wpAnyH_take (i := 2) (v := .pointer (some ⟨g, 0, none⟩)) rfl (by kernel_rfl) (by kernel_rfl) (by kernel_rfl) (fun _ _ _ h => h) (Or.inl ⟨by kernel_rfl, fun w _ => by go_simp⟩) S0 ?_
  refine wpAnyH_take (i := 3) (v := .pointer (some ⟨d, 0, none⟩)) rfl (by kernel_rfl) (by kernel_rfl) (by kernel_rfl) (fun _ _ _ h => h) (yields_one (ty := 29) (fun w => by kernel_rfl) (.tmp 23) (by kernel_rfl) (by kernel_rfl) (by kernel_rfl) (fun _ h => h.1)) S0 ?_
  refine wpAnyH_take (i := 4) (v := .int .i64 (x : Int)) rfl (by kernel_rfl) (by kernel_rfl) (by kernel_rfl) (fun _ _ _ h => h) (Or.inl ⟨by kernel_rfl, fun w _ => by go_simp⟩) S0 ?_
  refine wpAnyH_take (i := 5) (v := .int .i64 (k : Int)) rfl (by kernel_rfl) (by kernel_rfl) (by kernel_rfl) (fun _ _ _ h => h) (Or.inl ⟨by kernel_rfl, fun w _ => by go_simp⟩) S0 ?_
  refine wpAnyH_take (i := 6) (v := .agg (cl p)) rfl (by kernel_rfl) (by kernel_rfl) (by kernel_rfl) (fun _ _ _ h => h) (yields_pload (g := q) (.tmp 11) (by kernel_rfl) (by kernel_rfl) (by kernel_rfl) (fun _ h => h.2)) S0 ?_
  refine wpAnyH_ready (rs := [7]) (by kernel_rfl) (by simp) (AllReadyH.cons rfl (fun K hK => ?_) AllReadyH.nil)
  go_simp
  ((with_reducible refine KP.out.mono ?_); rintro e w5 ⟨rfl, X', d5, has5, _, rest5, _, c5⟩)
  have hgd : ¬ a.disk t d g := L4.out.gd
  have hqd : ¬ a.disk t d q := fun e => by have := hdl.out q e; have := HQ.out; omega
  have L5 : Lg w5 g h d t a X' N (C + 5) Bs num := L4.out.disk ⟨c5.os, c5.tape, c5.output, c5.size, c5.block⟩ d5
  have R4 := Lib.hid (show Wrote w w5 g h d t a X X' N (C + 5) Bs num x (L ++ [numP kind n]) from ⟨L5, by rw [HPQ.out]; exact has5, rest5, ((Chg.of_below B4.out.drew).trans c5).more (fun _ _ q => Or.inl q)⟩)
  have S5 : w5.cell? ⟨g, 0, none⟩ = some (.pointer (some ⟨d, 0, none⟩)) ∧ PArr w5 q p := ⟨L5.cells.1, (c5.block _ HK2.out.lt hqd).trans HK2.out.1, HK2.out.2⟩
  refine hK.out _ _ S5 (fun _ => ?_)
  clear hK K d5 has5 rest5 c5 L5 KP
  refine wpAnyH_take (i := 8) (v := .int .i64 0) rfl (by kernel_rfl) (by kernel_rfl) (by kernel_rfl) (fun _ _ _ h => h) (Or.inl ⟨by kernel_rfl, fun w _ => by go_simp⟩) S5 ?_
  refine wpAnyH_done (by kernel_rfl) ?_ _
  go_wp2
  go_ret
  exact ⟨rfl, X', R4.out⟩
end
end Go.Proofs.YtdiocjneakfdgaaGreatDoor

/- A log's block is cleared. Condition: the log is in order; few calls so far. -/
namespace Go.Proofs.YtdiocjneakfdgaaGreatDoor
open Go.RowKit
section
variable {w : World} {g h d t : Nat} {a : At} {X : DS} {N C : Nat} {Bs : List LB} {num : Nat} {os : List Nat}
theorem Lg.more {C' : Nat} (l : Lg w g h d t a X N C Bs num) (hC : C ≤ C') : Lg w g h d t a X N C' Bs num := ⟨l.gb, l.hb, l.dk.more hC, l.len, l.gh, l.gd, l.hd, l.gt, l.ht⟩
theorem sizeBk : ∀ w, (sizeOf 80).run Tryz.prog w = .ok 5 w := fun _ => by kernel_rfl
set_option maxRecDepth 100000 in
set_option maxHeartbeats 8000000 in
theorem clear_any (l : Lg w g h d t a X N C Bs num) {x : Nat} {b : LB} (hb : Bs[x]? = some b) (hC4 : C ≤ 3900) (wr : Nat) :
    Calls Tryz.prog 26 #[.pointer (some ⟨g, 0, none⟩), .int .i64 (x : Int), .int .u64 (wr : Int)] w fun e w' => e = .returned (.int .i64 0) ∧ ∃ X', Wrote w w' g h d t a X X' N (C + 10) (Bs.set x (LB.fresh wr)) num x [numP 2 wr] := by
  have hn := l.n
  obtain ⟨c0, c1, _⟩ := l.cells
  obtain ⟨cd, _⟩ := l.dk.count
  have hxl : x < N - 6 := by have := get_lt hb; rw [l.len] at this; exact this
  have HL := Lib.hid l
  have HX := Lib.hid hxl
  have HB := Lib.hid hb
  have HE := Lib.hid (fun (w' : World) (hl : Lg w' g h d t a X N C Bs num) => hl.dk.erase hxl (by omega))
  have KQ := fun k => (l.after (below_drewN k w (Below.refl w.heap.size w))).dk.count.2
  obtain ⟨M, hM⟩ : ∃ M, N - 6 = M := ⟨_, rfl⟩
  have hM40 : M ≤ 40 := by omega
  have HM := Lib.hid hM
  rw [hM] at c1 hxl
  clear l hb hM hn
  go_enter Tryz.func26, Tryz.ntmps26
  go_wp2
  go_quiet ((go_at_call 49; exact Calls.quiet_of_same ((KQ _).mono (fun _ _ h => ⟨h.1, h.2.symm⟩))))
  obtain ⟨V, hV⟩ : ∃ V, w.drewN nq = V := ⟨_, rfl⟩
  have b1 := Lib.hid (below_drewN nq w (Below.refl w.heap.size w))
  rw [hV] at b1 ⊢
  have L1 := Lib.hid (HL.out.after b1.out)
  have KE := Lib.hid (HE.out V L1.out)
  obtain ⟨e0, e1, _⟩ := L1.out.cells
  rw [HM.out] at e1
  clear KQ hV HE c0 c1 cd
  go_wp2_with (go_at_call 50; ((with_reducible refine KE.out.mono ?_); rintro e w2 ⟨rfl, X2, d2, has2, rest2, ch2⟩; have L2 := Lib.hid (L1.out.disk ch2 d2); have HAS2 := Lib.hid has2; have RST2 := Lib.hid rest2; have CH2 := Lib.hid ((Chg.of_below b1.out).trans ch2); obtain ⟨q0, q1, _⟩ := L2.out.cells; rw [HM.out] at q1; obtain ⟨qd, KC2⟩ := L2.out.dk.count; have KC3 := Lib.hid KC2; clear KE d2 has2 rest2 ch2 KC2))
  ((with_reducible refine KC3.out.mono ?_); rintro e w' ⟨rfl, rfl⟩)
  obtain ⟨n1, hn1⟩ : ∃ n1, X.S.cnt = n1 := ⟨_, rfl⟩
  obtain ⟨n2, hn2⟩ : ∃ n2, X2.S.cnt = n2 := ⟨_, rfl⟩
  rw [hn1, hn2]
  clear KC3 hn1 hn2
  have FIN : ∀ (w3 : World) (Bs3 : List LB) (b3 : LB), Lg w3 g h d t a X2 N (C + 5) Bs3 num → Chg w w3 (a.log t d g h) → Bs3[x]? = some b3 → Bs3.set x (LB.fresh wr) = Bs.set x (LB.fresh wr) →
      Calls Tryz.prog 51 #[.pointer (some ⟨g, 0, none⟩), .int .i64 (x : Int), .int .i64 0, .int .u8 2, .int .u64 (wr : Int)] w3 fun e w' => e = .returned (.int .i64 0) ∧ ∃ X', Hid (Blk w' h 80 (Bs3.flatMap brow)) ∧ Hid (∀ w6, Blk w6 h 80 (segSet (Bs3.flatMap brow) (x * 5) (brow (LB.fresh wr))) → w'.grownBy w6 (some h) → Wrote w w6 g h d t a X X' N (C + 10) (Bs.set x (LB.fresh wr)) num x [numP 2 wr]) := fun w3 Bs3 b3 l3 c3 hb3 he3 => by
    refine (note_any l3 HX.out (L := []) HAS2.out (k := 0) rfl (by omega) (fun q hq => by cases hq) (by omega) 2 (by decide) (by decide) wr).mono ?_
    rintro e w' ⟨rfl, X', W⟩
    refine ⟨rfl, X', Lib.hid W.lg.hb, Lib.hid fun w6 hB hg => ?_⟩
    rw [lflat_set _ _ _ (get_lt hb3), he3] at hB
    have hl : (Bs.set x (LB.fresh wr)).length = Bs3.length := by rw [← he3, List.length_set]
    exact ⟨(W.lg.blocks hB hl hg).more (by omega), W.has, fun y hy hyx => (W.rest y hy hyx).trans (RST2.out y hy hyx), (c3.trans W.chg).trans (Chg.of_grown hg (fun k e => by cases e; exact Or.inr (Or.inr rfl)))⟩
  have FIN' := Lib.hid FIN
  have HFL := Lib.hid (show (brow (LB.fresh wr)).length = 5 from rfl)
  have HFO := Lib.hid (brow_one (LB.fresh wr))
  have HFV := Lib.hid (show (brow (LB.fresh wr)).toArray = #[.int .u64 (wr : Int), .bool true, .bool false, .int .u64 0, .int .i64 0] from rfl)
  clear FIN
  by_cases hce : n2 = n1
  · subst hce
    have K5 := Lib.hid (FIN'.out w2 Bs b L2.out (CH2.out.more (fun _ _ q => Or.inl q)) HB.out rfl)
    have hfit := Lib.hid (show x * 5 + 5 ≤ (Bs.flatMap brow).length by rw [lflat_length]; have := get_lt HB.out; omega)
    clear FIN'
    go_wp2_with (first
      | (go_at_call 51; ((with_reducible refine K5.out.mono ?_); rintro e w5 ⟨rfl, X', hB5, hF5⟩; clear K5))
      | (with_reducible refine wpl_seg_store sizeBk (.tmp 60) (.tmp 59) rfl rfl hB5.out (x * 5) (brow (LB.fresh wr)) HFL.out hfit.out HFO.out rfl rfl _ rfl ?_; intro w6 B6 g6 e6))
    go_ret
    exact ⟨rfl, X', hF5.out w6 B6 g6⟩
  · have dn : ((n2 : Int) != (n1 : Int)) = true := by simp; omega
    have hset1 := L2.out.set1 (j := 1) (v := .bool false) (b' := { b with clr := false }) HB.out rfl (by omega)
    have hset2 := hset1.set1 (i := x) (j := 4) (b := { b with clr := false }) (v := .int .i64 8) (b' := { b with clr := false, next := 8 }) (by rw [List.getElem?_set_self (get_lt HB.out)]) rfl (by omega)
    have hB1 : (Bs.set x { b with clr := false })[x]? = some { b with clr := false } := by rw [List.getElem?_set_self (get_lt HB.out)]
    obtain ⟨_, y1, _, _, _⟩ := L2.out.cell HB.out
    have fr1 := L2.out.free (x * 5 + 1)
    obtain ⟨_, _, _, _, y4⟩ := hset1.cell hB1
    have fr4 := hset1.free (x * 5 + 4)
    simp only at y4
    have hch : Chg w ((w2.setCell ⟨h, x * 5 + 1, none⟩ (.bool false)).setCell ⟨h, x * 5 + 4, none⟩ (.int .i64 8)) (a.log t d g h) := (CH2.out.more (fun _ _ q => Or.inl q)).trans ((Chg.of_grown (grown_setg _ _ _ _) (fun k e => by cases e; exact Or.inr (Or.inr rfl))).trans (Chg.of_grown (grown_setg _ _ _ _) (fun k e => by cases e; exact Or.inr (Or.inr rfl))))
    have hBB : ((Bs.set x { b with clr := false }).set x { b with clr := false, next := 8 })[x]? = some { b with clr := false, next := 8 } := by rw [List.getElem?_set_self (by rw [List.length_set]; exact get_lt HB.out)]
    have K5 := Lib.hid (FIN'.out _ _ _ hset2 hch hBB (by rw [List.set_set, List.set_set]))
    have hfit := Lib.hid (show x * 5 + 5 ≤ (((Bs.set x { b with clr := false }).set x { b with clr := false, next := 8 }).flatMap brow).length by rw [lflat_length, List.length_set, List.length_set]; have := get_lt HB.out; omega)
    obtain ⟨Z, hZ⟩ : ∃ Z, (Bs.set x { b with clr := false }).set x { b with clr := false, next := 8 } = Z := ⟨_, rfl⟩
    rw [hZ] at K5 hfit
    clear FIN' hset1 hset2 hch hBB hB1 hZ
    go_wp2_with (first
      | (go_at_call 51; ((with_reducible refine K5.out.mono ?_); rintro e w5 ⟨rfl, X', hB5, hF5⟩; clear K5))
      | (with_reducible refine wpl_seg_store sizeBk (.tmp 60) (.tmp 59) rfl rfl hB5.out (x * 5) (brow (LB.fresh wr)) HFL.out hfit.out HFO.out rfl rfl _ rfl ?_; intro w6 B6 g6 e6))
    go_ret
    exact ⟨rfl, X', hF5.out w6 B6 g6⟩
end
end Go.Proofs.YtdiocjneakfdgaaGreatDoor

/- A log begins a segment. Condition: the log is in order, its free blocks are clear; few calls so far. -/
namespace Go.Proofs.YtdiocjneakfdgaaGreatDoor
open Go.RowKit
section
variable {w : World} {g h d t : Nat} {a : At} {X : DS} {N C : Nat} {Bs : List LB} {num : Nat} {os : List Nat}
theorem leastTo_free {x k : Nat} (h : leastTo Bs k = some x) {b : LB} (hb : Bs[x]? = some b) : b.seg = false := by
  have := (leastTo_some k x h).2.1
  rwa [segAt_get hb] at this
set_option maxRecDepth 100000 in
set_option maxHeartbeats 8000000 in
theorem begin_none (l : Lg w g h d t a X N C Bs num) (hx : leastTo Bs (N - 6) = none) :
    Calls Tryz.prog 37 #[.pointer (some ⟨g, 0, none⟩)] w fun e w' => e = .returned (.int .i64 40) ∧ Below w.heap.size w w' := by
  have KL := Lib.hid (least_any l)
  rw [hx] at KL
  simp only [Option.getD_none, Option.isSome_none] at KL
  clear l hx
  go_enter Tryz.func37, Tryz.ntmps37
  go_wp2_with (go_at_call 62; ((with_reducible refine KL.out.mono ?_); rintro e w2 ⟨rfl, b2⟩; have B2 := Lib.hid b2; clear b2 KL))
  go_ret
  exact ⟨rfl, B2.out⟩
theorem Lg.setnum (l : Lg w g h d t a X N C Bs num) (n : Nat) : Lg (w.setCell ⟨g, 2, none⟩ (.int .u64 (n : Int))) g h d t a X N C Bs n :=
  l.number (l.gb.set 2 (.int .u64 (n : Int))) (grown_setg _ _ _ _)
set_option maxRecDepth 100000 in
set_option maxHeartbeats 8000000 in
theorem begin_some (l : Lg w g h d t a X N C Bs num) {x : Nat} {b : LB} (hx : leastTo Bs (N - 6) = some x) (hb : Bs[x]? = some b) (hc : b.clr = true) (hH : HasN (X.blk x) b.pages) (hnum : num < 1000000) (hC4 : C ≤ 3900) :
    Calls Tryz.prog 37 #[.pointer (some ⟨g, 0, none⟩)] w fun e w' => e = .returned (.int .i64 0) ∧ ∃ X', Wrote w w' g h d t a X X' N (C + 5) (Bs.set x (b.begin_ (num + 1))) (num + 1) x (b.begin_ (num + 1)).pages := by
  have hseg := leastTo_free hx hb
  rw [pages_free hseg] at hH
  have KL := Lib.hid (least_any l)
  have hxl : x < N - 6 := by have := get_lt hb; rw [l.len] at this; exact this
  have HL := Lib.hid l
  have HX := Lib.hid hxl
  have HB := Lib.hid hb
  have KCl := Lib.hid (fun (w' : World) (hl : Lg w' g h d t a X N C Bs num) => isClean_yes hl hb hc (fun k k1 k8 => hH.ff k k1 k8))
  have HN := Lib.hid (fun (w' : World) (Bs' : List LB) (hl : Lg w' g h d t a X N C Bs' (num + 1)) => note_any hl hxl hH (k := 1) rfl (by omega) (fun q hq => by rw [List.mem_singleton.1 hq]; exact numP_rec 2 (by decide) (by decide) _) (by omega) 3 (by decide) (by decide) (num + 1))
  rw [hx] at KL
  simp only [Option.getD_some, Option.isSome_some] at KL
  have hn := l.n
  obtain ⟨M, hM⟩ : ∃ M, N - 6 = M := ⟨_, rfl⟩
  have hM40 : M ≤ 40 := by omega
  have HM := Lib.hid hM
  rw [hM] at hxl
  clear l hx hb hc hH hn hM
  go_enter Tryz.func37, Tryz.ntmps37
  have dn : ((num : Int) == 18446744073709551615) = false := by rw [beq_eq_false_iff_ne]; omega
  have e1 : (num : Int) + 1 = ((num + 1 : Nat) : Int) := by omega
  obtain ⟨m1, hm1⟩ : ∃ m1, num + 1 = m1 := ⟨_, rfl⟩
  rw [hm1] at e1 HN ⊢
  have HM1 := Lib.hid hm1
  have hm1b : m1 ≤ 1000000 := by omega
  clear hm1
  go_wp2_with (first
    | (go_at_call 62; ((with_reducible refine KL.out.mono ?_); rintro e w1 ⟨rfl, b1⟩; have B1 := Lib.hid b1; have L1 := Lib.hid (HL.out.after b1); obtain ⟨_, _, u2⟩ := L1.out.cells; have K1 := Lib.hid (KCl.out w1 L1.out); clear b1 KL))
    | (go_at_call 63; ((with_reducible refine K1.out.mono ?_); rintro e w2 ⟨rfl, b2⟩; have B2 := Lib.hid (B1.out.trans (b2.mono B1.out.size)); have L2 := Lib.hid (L1.out.after b2); obtain ⟨_, v1, v2⟩ := L2.out.cells; rw [HM.out] at v1; have fg := L2.out.gb.free 2; have L3 := Lib.hid (L2.out.setnum m1); obtain ⟨_, w31, w32⟩ := L3.out.cells; obtain ⟨_, k31, _, _, _⟩ := L3.out.cell HB.out; have f31 := L3.out.free (x * 5 + 1); have L4 := Lib.hid (L3.out.set1 (j := 1) (v := .bool false) (b' := { b with clr := false }) HB.out rfl (by omega)); obtain ⟨_, w41, w42⟩ := L4.out.cells; clear b2 K1 u2))
    | fail)
  have CW := Lib.hid (show Chg w ((w2.setCell ⟨g, 2, none⟩ (.int .u64 (m1 : Int))).setCell ⟨h, x * 5 + 1, none⟩ (.bool false)) (a.log t d g h) from (Chg.of_below B2.out).trans ((Chg.of_grown (grown_setg _ _ _ _) (fun k e => by cases e; exact Or.inr (Or.inl rfl))).trans (Chg.of_grown (grown_setg _ _ _ _) (fun k e => by cases e; exact Or.inr (Or.inr rfl)))))
  obtain ⟨W4, hW4⟩ : ∃ W4, (w2.setCell ⟨g, 2, none⟩ (.int .u64 (m1 : Int))).setCell ⟨h, x * 5 + 1, none⟩ (.bool false) = W4 := ⟨_, rfl⟩
  rw [hW4] at L4 CW ⊢
  have KN := Lib.hid (show Calls Tryz.prog 51 #[.pointer (some ⟨g, 0, none⟩), .int .i64 (x : Int), .int .i64 1, .int .u8 3, .int .u64 (m1 : Int)] W4 _ from HN.out W4 _ L4.out)
  clear hW4 w31 w32 k31 f31 w41 w42 v1 v2 fg HN L3 L1 KCl HL
  ((with_reducible refine KN.out.mono ?_); rintro e w5 ⟨rfl, X', W⟩)
  have hb5 : (Bs.set x { b with clr := false })[x]? = some { b with clr := false } := by rw [List.getElem?_set_self (get_lt HB.out)]
  have s1 := W.lg.set1 (i := x) (j := 2) (v := .bool true) (b' := { b with clr := false, seg := true }) hb5 rfl (by omega)
  have hb6 : ((Bs.set x { b with clr := false }).set x { b with clr := false, seg := true })[x]? = some { b with clr := false, seg := true } := by rw [List.getElem?_set_self (by rw [List.length_set]; exact get_lt HB.out)]
  have s2 := s1.set1 (i := x) (j := 3) (v := .int .u64 (m1 : Int)) (b' := { b with clr := false, seg := true, num := m1 }) hb6 rfl (by omega)
  have hb7 : (((Bs.set x { b with clr := false }).set x { b with clr := false, seg := true }).set x { b with clr := false, seg := true, num := m1 })[x]? = some { b with clr := false, seg := true, num := m1 } := by rw [List.getElem?_set_self (by rw [List.length_set, List.length_set]; exact get_lt HB.out)]
  have s3 := s2.set1 (i := x) (j := 4) (v := .int .i64 2) (b' := b.begin_ m1) hb7 rfl (by omega)
  simp only [List.set_set] at s3
  obtain ⟨_, _, y2, _, _⟩ := W.lg.cell hb5
  obtain ⟨_, _, _, y3, _⟩ := s1.cell hb6
  obtain ⟨_, _, _, _, y4⟩ := s2.cell hb7
  have fr2 := W.lg.free (x * 5 + 2)
  have fr3 := s1.free (x * 5 + 3)
  have fr4 := s2.free (x * 5 + 4)
  obtain ⟨_, _, u2⟩ := W.lg.cells
  simp only at y2 y3 y4
  have R6 := Lib.hid (show Wrote w (((w5.setCell ⟨h, x * 5 + 2, none⟩ (.bool true)).setCell ⟨h, x * 5 + 3, none⟩ (.int .u64 (m1 : Int))).setCell ⟨h, x * 5 + 4, none⟩ (.int .i64 2)) g h d t a X X' N (C + 5) (Bs.set x (b.begin_ m1)) m1 x (b.begin_ m1).pages from
    ⟨s3, by rw [LB.begin_pages]; exact W.has, W.rest, CW.out.trans (W.chg.trans ((Chg.of_grown (grown_setg _ _ _ _) (fun k e => by cases e; exact Or.inr (Or.inr rfl))).trans ((Chg.of_grown (grown_setg _ _ _ _) (fun k e => by cases e; exact Or.inr (Or.inr rfl))).trans (Chg.of_grown (grown_setg _ _ _ _) (fun k e => by cases e; exact Or.inr (Or.inr rfl))))))⟩)
  clear s1 s2 s3 hb5 hb6 hb7 W CW KN L4 L2
  go_wp2
  go_ret
  exact ⟨rfl, X', R6.out⟩
end
end Go.Proofs.YtdiocjneakfdgaaGreatDoor

