/- Several texts of the proof, joined: what each has is said at its head. -/
import Derived.Test.YtdiocjneakfdgaaGreatDoorQLogD
import Derived.Test.YtdiocjneakfdgaaGreatDoorQNandN
import Derived.Test.YtdiocjneakfdgaaGreatDoorQLogE
import Derived.Test.YtdiocjneakfdgaaGreatDoorQDiskD
/- A log's Drop; a log over a disk, made anew. Condition: the disk is in order; few calls so far; no wear is great. -/
namespace Go.Proofs.YtdiocjneakfdgaaGreatDoor
open Go.RowKit
def LB.zero : LB := ⟨0, false, false, 0, 0, []⟩
theorem madeL (n : Nat) (z : Value) (hz : z.cells.toList = brow LB.zero) : madeCells z.cells (n * 5) = ((List.replicate n LB.zero).flatMap brow).toArray := by
  have hc : z.cells = (brow LB.zero).toArray := by rw [← hz]
  rw [hc]
  apply Array.toList_inj.1
  rw [List.toList_toArray]
  apply List.ext_getElem?
  intro i
  rcases Nat.lt_or_ge i (n * 5) with h | h
  · have hb : i / 5 < n := by omega
    have hm : i % 5 < (brow LB.zero).length := by rw [brow_len]; exact Nat.mod_lt _ (by omega)
    have e := lflat_get (List.replicate n LB.zero) (i / 5) (i % 5) LB.zero _ (by rw [List.getElem?_replicate, if_pos hb]) (List.getElem?_eq_getElem hm)
    rw [show i / 5 * 5 + i % 5 = i by omega] at e
    rw [e]
    simp [madeCells, h, brow_len]
    rw [List.getElem?_eq_getElem hm]
    rfl
  · rw [List.getElem?_eq_none (l := (List.replicate n LB.zero).flatMap brow) (by rw [lflat_length, List.length_replicate]; exact h)]
    simp [madeCells]
    omega
theorem infoBl : (Tryz.prog.info? 80).map (fun i => (i.zero, i.size, i.bytes)) = some (some (.agg #[.int .u64 0, .bool false, .bool false, .int .u64 0, .int .i64 0]), 5, 32) := by kernel_rfl
theorem makeL_any (n : Nat) (hn : n ≤ 40) (w : World) : (Instr.makeSlice 30 (.int .i64 (n : Int)) (.int .i64 (n : Int))).run Tryz.prog w = .ok (.slice (some ⟨w.heap.size, 0, none⟩) n n) (w.alloc (.cells ((List.replicate n LB.zero).flatMap brow).toArray 80)) := by
  obtain ⟨i, hi, hh⟩ := Option.map_eq_some_iff.1 infoBl
  have e1 : i.zero = some (.agg #[.int .u64 0, .bool false, .bool false, .int .u64 0, .int .i64 0]) := congrArg (·.1) hh
  have e2 : i.size = 5 := congrArg (·.2.1) hh
  have e3 : i.bytes = 32 := congrArg (·.2.2) hh
  have := run_make (P := Tryz.prog) w 30 80 i _ Tryz.underlying30 hi e1 .i64 .i64 n n (by omega) (by omega) (by rw [e3]; omega) (by omega)
  rw [e2, Int.toNat_natCast, madeL _ _ rfl] at this
  exact this
section
variable {w : World} {g h d t : Nat} {a : At} {X : DS} {N C : Nat} {Bs : List LB} {num : Nat} {os : List Nat}
theorem Dl.len (l : Dl w d t a X N C) : Calls Tryz.prog 14 #[.pointer (some ⟨d, 0, none⟩)] w fun e w' => e = .returned (.int .i64 ((N - 6 : Nat) : Int)) ∧ w = w' := by
  obtain ⟨f, e, l, _⟩ := l
  have := dlen_any l.dk
  rwa [l.ok.sz] at this
set_option maxRecDepth 100000 in
set_option maxHeartbeats 8000000 in
theorem over_any (l : Dl w d t a X N C) :
    Calls Tryz.prog 44 #[.pointer (some ⟨d, 0, none⟩)] w fun e w' => ∃ g h, e = .returned (.pointer (some ⟨g, 0, none⟩)) ∧ Lg w' g h d t a X N C (List.replicate (N - 6) LB.zero) 0 ∧ w.heap.size ≤ g ∧ w.heap.size ≤ h ∧ Below w.heap.size w w' := by
  have KL := Lib.hid l.len
  have hn := l.n
  have HL := Lib.hid l
  obtain ⟨M, hM⟩ : ∃ M, N - 6 = M := ⟨_, rfl⟩
  rw [hM] at KL
  have HM := Lib.hid hM
  have hM40 : M ≤ 40 := by omega
  have KM := makeL_any M hM40 w
  have B1 := Lib.hid (show Blk (w.alloc (.cells ((List.replicate M LB.zero).flatMap brow).toArray 80)) w.heap.size 80 ((List.replicate M LB.zero).flatMap brow) from Blk.new w _ _)
  have b1 := Lib.hid ((Below.refl w.heap.size w).alloc (Nat.le_refl _) (.cells ((List.replicate M LB.zero).flatMap brow).toArray 80))
  have hlt := Lib.hid (fun k hk => l.lt k hk)
  have htb := Lib.hid l.tab.lt
  obtain ⟨V, hV⟩ : ∃ V, w.alloc (.cells ((List.replicate M LB.zero).flatMap brow).toArray 80) = V := ⟨_, rfl⟩
  have hsz : V.heap.size = w.heap.size + 1 := by rw [← hV, World.size_alloc]
  rw [hV] at KM B1 b1
  clear l hM hV hn
  go_enter Tryz.func44, Tryz.ntmps44
  go_wp2_with (go_at_call 14; ((with_reducible refine KL.out.mono ?_); rintro e w2 ⟨rfl, rfl⟩))
  go_ret
  have b2 : Below w.heap.size w (V.alloc (.cells #[.pointer (some ⟨d, 0, none⟩), .slice (some ⟨w.heap.size, 0, none⟩) M M, .int .u64 0] 33)) := b1.out.alloc b1.out.size _
  refine ⟨w.heap.size + 1, w.heap.size, rfl, ⟨?_, ?_, HL.out.after b2, by rw [List.length_replicate, HM.out], by omega, fun q => ?_, fun q => ?_, ?_, ?_⟩, by omega, Nat.le_refl _, b2⟩
  · rw [HM.out, ← hsz]; exact Blk.new V _ [.pointer (some ⟨d, 0, none⟩), .slice (some ⟨w.heap.size, 0, none⟩) M M, .int .u64 0]
  · rw [HM.out]; exact B1.out.alloc _
  · have := hlt.out _ q; omega
  · have := hlt.out _ q; omega
  · have := htb.out; omega
  · have := htb.out; omega
theorem drop_no (l : LogS w g h d t a X N C Bs os num) (x : Int) (hx : isSegM Bs x = false) :
    Calls Tryz.prog 9 #[.pointer (some ⟨g, 0, none⟩), .int .i64 x] w fun e w' => e = .returned (.int .i64 1) ∧ w = w' := by
  have K := Lib.hid (isSegment_any l.lg x)
  rw [hx] at K
  clear l hx
  go_enter Tryz.func9, Tryz.ntmps9
  go_wp2_with (go_at_call 25; ((with_reducible refine K.out.mono ?_); rintro e w2 ⟨rfl, rfl⟩))
  go_ret
  exact ⟨rfl, rfl⟩
set_option maxRecDepth 100000 in
set_option maxHeartbeats 8000000 in
theorem drop_yes (l : LogS w g h d t a X N C Bs os num) {x : Nat} {b : LB} (hb : Bs[x]? = some b) (hs : b.seg = true) (hw : b.wear < 1000000) (hC4 : C ≤ 3900) :
    Calls Tryz.prog 9 #[.pointer (some ⟨g, 0, none⟩), .int .i64 (x : Int)] w fun e w' => e = .returned (.int .i64 0) ∧ ∃ X', LogS w' g h d t a X' N (C + 10) (Bs.set x (LB.fresh (b.wear + 1))) (os.filter (fun y => decide (y ≠ x))) num ∧ Chg w w' (a.log t d g h) := by
  have K := Lib.hid (isSegment_any l.lg (x : Int))
  rw [show isSegM Bs (x : Int) = true by unfold isSegM; simp [segAt_get hb, hs]] at K
  have hxl : x < N - 6 := by have := get_lt hb; rw [l.lg.len] at this; exact this
  have KC := Lib.hid (clear_any l.lg hb hC4 (b.wear + 1))
  have HF := Lib.hid (fun (w2 : World) (X' : DS) (W : Wrote w w2 g h d t a X X' N (C + 10) (Bs.set x (LB.fresh (b.wear + 1))) num x [numP 2 (b.wear + 1)]) => show LogS w2 g h d t a X' N (C + 10) (Bs.set x (LB.fresh (b.wear + 1))) (os.filter (fun y => decide (y ≠ x))) num ∧ Chg w w2 (a.log t d g h) from
    ⟨⟨W.lg, l.o.drop (get_lt hb) (by omega), l.has.set (get_lt hb) (by rw [pages_free rfl]; exact W.has) (fun y hy hyx => W.rest y (by rw [l.lg.len] at hy; exact hy) hyx), l.clr.set (fun _ => rfl)⟩, W.chg⟩)
  have hn := l.lg.n
  obtain ⟨_, c1, _⟩ := l.lg.cells
  obtain ⟨k0, _, _, _, _⟩ := l.lg.cell hb
  obtain ⟨M, hM⟩ : ∃ M, N - 6 = M := ⟨_, rfl⟩
  rw [hM] at c1 hxl
  have hM40 : M ≤ 40 := by omega
  obtain ⟨bw, hbw⟩ : ∃ bw, b.wear = bw := ⟨_, rfl⟩
  rw [hbw] at k0 hw KC HF ⊢
  obtain ⟨b1, hb1⟩ : ∃ b1, bw + 1 = b1 := ⟨_, rfl⟩
  have e1 : (bw : Int) + 1 = (b1 : Int) := by omega
  rw [hb1] at KC HF ⊢
  have hbs : b1 ≤ 1000000 := by omega
  clear l hb hs hn hM hbw hb1
  go_enter Tryz.func9, Tryz.ntmps9
  go_wp2_with (first
    | (go_at_call 25; ((with_reducible refine K.out.mono ?_); rintro e w2 ⟨rfl, rfl⟩))
    | (go_at_call 26; ((with_reducible refine KC.out.mono ?_); rintro e w2 ⟨rfl, X', W⟩; have W2 := Lib.hid (HF.out _ _ W); clear W KC)))
  go_ret
  exact ⟨rfl, X', W2.out⟩
/-- the wear that a block's first page tells -/
def tv (X : DS) (y : Nat) : Nat := (tellsM ((X.blk y).pg.getD 0 []) 2).getD 0
/-- the first i of M blocks are cleared -/
def newB (X : DS) (M i : Nat) : List LB := (List.range i).map (fun y => LB.fresh (tv X y + 1)) ++ List.replicate (M - i) LB.zero
theorem newB_at {X : DS} {M i : Nat} (h : i < M) : (newB X M i)[i]? = some LB.zero := by
  unfold newB
  rw [List.getElem?_append_right (by simp), List.length_map, List.length_range, Nat.sub_self, List.getElem?_replicate, if_pos (by omega)]
theorem newB_step {X : DS} {M i : Nat} (h : i < M) : (newB X M i).set i (LB.fresh (tv X i + 1)) = newB X M (i + 1) := by
  unfold newB
  rw [List.range_succ, List.map_append, List.append_assoc, List.set_append_right _ _ (by simp), List.length_map, List.length_range, Nat.sub_self]
  congr 1
  rw [show M - i = (M - (i + 1)) + 1 by omega, List.replicate_succ]
  rfl
theorem newB_full (X : DS) (M : Nat) : newB X M M = (List.range M).map (fun y => LB.fresh (tv X y + 1)) := by unfold newB; rw [Nat.sub_self]; simp
theorem newB_lok {X : DS} {M : Nat} (h : ∀ y, y < M → tv X y < 1000000) : LOk (newB X M M) [] 0 := by
  rw [newB_full]
  have hm : ∀ b ∈ (List.range M).map (fun y => LB.fresh (tv X y + 1)), ∃ y, y < M ∧ b = LB.fresh (tv X y + 1) := fun b hb => by
    obtain ⟨y, hy, rfl⟩ := List.mem_map.1 hb
    exact ⟨y, List.mem_range.1 hy, rfl⟩
  refine ⟨fun b hb => ?_, ⟨fun x => ⟨(fun q => by cases q), fun q => ?_⟩, List.Pairwise.nil⟩, fun b hb hs => ?_⟩
  · obtain ⟨y, hy, rfl⟩ := hm b hb
    exact LB.fresh_ok (by have := h y hy; omega)
  · exfalso
    have hl := segAt_lt q
    rw [segAt_get (List.getElem?_eq_getElem hl)] at q
    obtain ⟨y, _, e⟩ := hm _ (List.getElem_mem hl)
    rw [e] at q
    cases q
  · obtain ⟨y, _, rfl⟩ := hm b hb
    cases hs
set_option maxRecDepth 100000 in
set_option maxHeartbeats 8000000 in
theorem new_any8 (l : Dl w d t a X N C) (htv : ∀ y, y < N - 6 → tv X y < 1000000) (hC4 : C ≤ 3400) :
    Calls Tryz.prog 21 #[.pointer (some ⟨d, 0, none⟩)] w fun e w' => ∃ g h X', e = .returned (.tuple #[.pointer (some ⟨g, 0, none⟩), .int .i64 0]) ∧ LogS w' g h d t a X' N (C + 400) (newB X (N - 6) (N - 6)) [] 0 ∧ w.heap.size ≤ g ∧ w.heap.size ≤ h ∧ Chg w w' (a.disk t d) := by
  have KO := Lib.hid (over_any l)
  have hn := l.n
  have HTV := Lib.hid htv
  obtain ⟨M, hM⟩ : ∃ M, N - 6 = M := ⟨_, rfl⟩
  have HM := Lib.hid hM
  have hM40 : M ≤ 34 := by omega
  rw [hM] at HTV KO ⊢
  have hwl := Lib.hid (fun k hk => l.lt k hk)
  clear l htv hM hn
  go_enter Tryz.func21, Tryz.ntmps21
  go_wp2_with (go_at_call 44; ((with_reducible refine KO.out.mono ?_); rintro e w1 ⟨g, h, rfl, L1, hg, hh, b1⟩; have HL1 := Lib.hid L1; have HG := Lib.hid hg; have HH := Lib.hid hh; have HB1 := Lib.hid b1; obtain ⟨_, c1, _⟩ := L1.cells; rw [HM.out] at c1; clear L1 hg hh b1 KO))
  go_loopw [5, 6, 7, 8, 9, 17] (fun _ _ _ _ _ vi wr => ∃ i : Nat, vi = .int .i64 (i : Int) ∧ i ≤ M ∧ Hid (∃ Xi, Lg wr g h d t a Xi N (C + 10 * i) (newB X M i) 0 ∧ (∀ y, i ≤ y → y < M → Xi.blk y = X.blk y) ∧ (∀ y, y < i → HasN (Xi.blk y) [numP 2 (tv X y + 1)]) ∧ Chg w wr (fun j => a.disk t d j ∨ w.heap.size ≤ j))) (fun _ _ _ _ _ vi _ => M - (intOf vi).toNat)
  case atStart => exact ⟨0, rfl, Nat.zero_le _, Lib.hid ⟨X, by show Lg w1 g h d t a X N (C + 10 * 0) (newB X M 0) 0; rw [show newB X M 0 = List.replicate M LB.zero by unfold newB; simp]; exact HL1.out, fun _ _ _ => rfl, fun y hy => absurd hy (Nat.not_lt_zero _), (Chg.of_below HB1.out)⟩⟩
  case round =>
    obtain ⟨i, rfl, hi, HQ⟩ := hrel
    by_cases hlt : i < M
    · obtain ⟨Xi, li, hx1, hx2, hc⟩ := HQ.out
      have KT : Hid (Calls Tryz.prog 45 #[.pointer (some ⟨g, 0, none⟩), .int .i64 (i : Int), .int .i64 0, .int .u8 2] wr fun e w' => e = .returned (.tuple (tellsV ((Xi.blk i).pg.getD 0 []) 2)) ∧ Below wr.heap.size wr w') := Lib.hid (tells_any li (x := i) (k := 0) (by rw [HM.out]; exact hlt) (by omega) 2)
      rw [show tellsV ((Xi.blk i).pg.getD 0 []) 2 = #[.int .u64 ((tv X i : Nat) : Int), .bool (tellsM ((X.blk i).pg.getD 0 []) 2).isSome, .int .i64 0] by unfold tellsV tv; rw [hx1 i (Nat.le_refl _) hlt]] at KT
      have htv := HTV.out i hlt
      have KC := Lib.hid (fun (w' : World) (hl : Lg w' g h d t a Xi N (C + 10 * i) (newB X M i) 0) => clear_any hl (newB_at hlt) (by omega) (tv X i + 1))
      rw [newB_step hlt] at KC
      have HFIN := Lib.hid (fun (w' w2 : World) (X' : DS) (c' : Chg w w' (fun j => a.disk t d j ∨ w.heap.size ≤ j)) (W : Wrote w' w2 g h d t a Xi X' N (C + 10 * i + 10) (newB X M (i + 1)) 0 i [numP 2 (tv X i + 1)]) => show ∃ Xj, Lg w2 g h d t a Xj N (C + 10 * (i + 1)) (newB X M (i + 1)) 0 ∧ (∀ y, i + 1 ≤ y → y < M → Xj.blk y = X.blk y) ∧ (∀ y, y < i + 1 → HasN (Xj.blk y) [numP 2 (tv X y + 1)]) ∧ Chg w w2 (fun j => a.disk t d j ∨ w.heap.size ≤ j) from
        ⟨X', W.lg.more (by omega), fun y h1 h2 => (W.rest y (by rw [HM.out]; exact h2) (by omega)).trans (hx1 y (by omega) h2), fun y hy => by
          by_cases e : y = i
          · subst e; exact W.has
          · rw [W.rest y (by rw [HM.out]; omega) e]
            exact hx2 y (by omega), c'.trans (W.chg.more (fun j _ hj => by
              rcases hj with q | rfl | rfl
              · exact Or.inl q
              · exact Or.inr HG.out
              · exact Or.inr HH.out))⟩)
      have LI := Lib.hid li
      have CI := Lib.hid hc
      obtain ⟨tb, htb⟩ : ∃ tb, (tellsM ((X.blk i).pg.getD 0 []) 2).isSome = tb := ⟨_, rfl⟩
      rw [htb] at KT
      obtain ⟨t0, ht0⟩ : ∃ t0, tv X i = t0 := ⟨_, rfl⟩
      rw [ht0] at KT KC HFIN htv
      obtain ⟨t1, ht1⟩ : ∃ t1, t0 + 1 = t1 := ⟨_, rfl⟩
      have e1 : (t0 : Int) + 1 = (t1 : Int) := by omega
      rw [ht1] at KC HFIN
      have ht1b : t1 ≤ 1000000 := by omega
      clear HQ li hx1 hx2 hc htb ht0 ht1
      go_wp2_with (first
        | (go_at_call 45; ((with_reducible refine KT.out.mono ?_); rintro e w3 ⟨rfl, b3⟩; have K4 := Lib.hid (KC.out _ (LI.out.after b3)); have C3 := Lib.hid (CI.out.trans (Chg.of_below b3)); clear KT b3))
        | (go_at_call 26; ((with_reducible refine K4.out.mono ?_); rintro e w4 ⟨rfl, X', W⟩; have F4 := Lib.hid (HFIN.out _ _ _ C3.out W); clear K4 W)))
      go_roundw
      case rel => exact ⟨i + 1, by go_num, by omega, F4⟩
      case measure => simp [intOf]; omega
    · obtain rfl : i = M := by omega
      obtain ⟨Xi, li, hx1, hx2, hc⟩ := HQ.out
      have LI := Lib.hid li
      have H2 := Lib.hid hx2
      have CI := Lib.hid hc
      clear HQ li hx1 hx2 hc
      go_wp2
      go_ret2
      refine ⟨g, h, Xi, rfl, ⟨LI.out.more (by omega), newB_lok HTV.out, fun y b hb => ?_, fun b hb hs => ?_⟩, HG.out, HH.out, ?_⟩
      · rw [newB_full] at hb
        have hyl := get_lt hb
        rw [List.length_map, List.length_range] at hyl
        rw [List.getElem?_map, List.getElem?_range hyl] at hb
        cases hb
        exact H2.out y hyl
      · rw [newB_full] at hb
        obtain ⟨y, _, rfl⟩ := List.mem_map.1 hb
        rfl
      · exact ⟨CI.out.os, CI.out.tape, CI.out.output, CI.out.size, fun k hk hT => CI.out.block k hk (fun e => by rcases e with q | q; exact hT q; omega)⟩
end
end Go.Proofs.YtdiocjneakfdgaaGreatDoor

/- A log that is filled, record by record: plain facts; each Append of it. Condition: the log was empty, its blocks have one wear; few calls so far. -/
namespace Go.Proofs.YtdiocjneakfdgaaGreatDoor
open Go.RowKit
/-- the block y of a log that n records were put into, one by one -/
def fblk (f : Nat → LRec) (n y : Nat) : LB := if n ≤ 6 * y then LB.fresh 1 else ⟨1, false, true, y + 1, 2 + min 6 (n - 6 * y), (List.range (min 6 (n - 6 * y))).map (fun j => f (6 * y + j))⟩
def fillB (M : Nat) (f : Nat → LRec) (n : Nat) : List LB := (List.range M).map (fblk f n)
def fillN (n : Nat) : Nat := (n + 5) / 6
def fillO (n : Nat) : List Nat := List.range (fillN n)
theorem fillB_length (M : Nat) (f : Nat → LRec) (n : Nat) : (fillB M f n).length = M := by simp [fillB]
theorem fillB_get {M y : Nat} (f : Nat → LRec) (n : Nat) (h : y < M) : (fillB M f n)[y]? = some (fblk f n y) := by
  unfold fillB
  rw [List.getElem?_map, List.getElem?_range h]
  rfl
theorem fblk_free {f : Nat → LRec} {n y : Nat} (h : n ≤ 6 * y) : fblk f n y = LB.fresh 1 := by unfold fblk; rw [if_pos h]
theorem fblk_seg {f : Nat → LRec} {n y : Nat} (h : 6 * y < n) : fblk f n y = ⟨1, false, true, y + 1, 2 + min 6 (n - 6 * y), (List.range (min 6 (n - 6 * y))).map (fun j => f (6 * y + j))⟩ := by unfold fblk; rw [if_neg (by omega)]
theorem fblk_other {f : Nat → LRec} {n y : Nat} (h : y ≠ n / 6) : fblk f (n + 1) y = fblk f n y := by
  by_cases c : n ≤ 6 * y
  · rw [fblk_free c, fblk_free (by omega)]
  · rw [fblk_seg (by omega), fblk_seg (by omega), show min 6 (n + 1 - 6 * y) = min 6 (n - 6 * y) by omega]
theorem fblk_put {f : Nat → LRec} {n : Nat} (h : n % 6 ≠ 0) : (fblk f n (n / 6)).put (f n) = fblk f (n + 1) (n / 6) := by
  rw [fblk_seg (f := f) (n := n) (by omega), fblk_seg (f := f) (n := n + 1) (by omega)]
  have e1 : min 6 (n - 6 * (n / 6)) = n % 6 := by omega
  have e2 : min 6 (n + 1 - 6 * (n / 6)) = n % 6 + 1 := by omega
  rw [e1, e2]
  unfold LB.put
  rw [List.range_succ, List.map_append]
  simp only [List.map_cons, List.map_nil]
  rw [show 6 * (n / 6) + n % 6 = n by omega]
  rfl
theorem fblk_new {f : Nat → LRec} {n : Nat} (h : n % 6 = 0) : ((fblk f n (n / 6)).begin_ (fillN n + 1)).put (f n) = fblk f (n + 1) (n / 6) := by
  rw [fblk_free (f := f) (n := n) (by omega), fblk_seg (f := f) (n := n + 1) (by omega)]
  have e2 : min 6 (n + 1 - 6 * (n / 6)) = 1 := by omega
  have e3 : fillN n = n / 6 := by unfold fillN; omega
  rw [e2, e3]
  show LB.mk 1 false true (n / 6 + 1) 3 ([] ++ [f n]) = LB.mk 1 false true (n / 6 + 1) 3 ([f (6 * (n / 6) + 0)])
  rw [show 6 * (n / 6) + 0 = n by omega]
  rfl
theorem fillB_step {M : Nat} {f : Nat → LRec} {n : Nat} (_hn : n < 6 * M) : (fillB M f n).set (n / 6) (fblk f (n + 1) (n / 6)) = fillB M f (n + 1) := by
  apply List.ext_getElem?
  intro y
  by_cases hy : y < M
  · rw [List.getElem?_set, fillB_get f _ hy]
    by_cases e : n / 6 = y
    · rw [if_pos e, if_pos (by rw [fillB_length]; omega), e]
      exact (fillB_get f _ hy).symm
    · rw [if_neg e, fillB_get f _ hy, fblk_other (fun q => e q.symm)]
  · rw [List.getElem?_eq_none (by rw [List.length_set, fillB_length]; omega), List.getElem?_eq_none (by rw [fillB_length]; omega)]
theorem fillO_last {n : Nat} (h : 0 < n) : (fillO n).getLast? = some ((n - 1) / 6) := by
  unfold fillO fillN
  rw [show (n + 5) / 6 = (n - 1) / 6 + 1 by omega, List.range_succ]
  simp
theorem fillO_step {n : Nat} (h : n % 6 = 0) : fillO n ++ [n / 6] = fillO (n + 1) := by
  unfold fillO fillN
  rw [show (n + 1 + 5) / 6 = (n + 5) / 6 + 1 by omega, List.range_succ, show (n + 5) / 6 = n / 6 by omega]
theorem fillO_same {n : Nat} (h : n % 6 ≠ 0) : fillO n = fillO (n + 1) := by
  unfold fillO fillN
  rw [show (n + 1 + 5) / 6 = (n + 5) / 6 by omega]
theorem fill_seg {M y : Nat} (f : Nat → LRec) (n : Nat) (h : y < M) : segAt (fillB M f n) y = decide (6 * y < n) := by
  rw [segAt_get (fillB_get f n h)]
  by_cases c : n ≤ 6 * y
  · rw [fblk_free c, decide_eq_false (by omega)]; rfl
  · rw [fblk_seg (by omega), decide_eq_true (by omega)]
theorem fill_wear {M y : Nat} (f : Nat → LRec) (n : Nat) (h : y < M) : wearAt (fillB M f n) y = 1 := by
  rw [wearAt_get (fillB_get f n h)]
  by_cases c : n ≤ 6 * y
  · rw [fblk_free c]; rfl
  · rw [fblk_seg (by omega)]
/-- the free block that is begun next -/
theorem fill_least {M : Nat} (f : Nat → LRec) {n : Nat} (hn : n % 6 = 0) : ∀ k, k ≤ M → leastTo (fillB M f n) k = if k ≤ n / 6 then none else some (n / 6)
  | 0, _ => by rw [if_pos (Nat.zero_le _)]; rfl
  | k + 1, hk => by
    have ih := fill_least (M := M) f hn k (by omega)
    rw [leastTo_succ, fill_seg f n (by omega)]
    by_cases c : k + 1 ≤ n / 6
    · rw [if_pos (by rw [decide_eq_true (by omega)]), ih, if_pos (by omega), if_pos c]
    · rw [if_neg (by rw [decide_eq_false (by omega)]; decide), if_neg c, ih]
      by_cases c2 : k ≤ n / 6
      · rw [if_pos c2]
        simp only [Option.some.injEq]
        omega
      · rw [if_neg c2]
        simp only
        rw [fill_wear f n (by omega), fill_wear f n (by omega), if_neg (by omega)]
theorem fill_room {M : Nat} (f : Nat → LRec) {n : Nat} (hn : n ≤ 6 * M) : roomOf (fillB M f n) (fillO n) = (6 - n % 6) % 6 := by
  by_cases h0 : n = 0
  · subst h0
    rfl
  · have hl := fillO_last (n := n) (by omega)
    have hb := fillB_get (M := M) f n (y := (n - 1) / 6) (by omega)
    rw [roomOf_some hl hb, fblk_seg (by omega)]
    show 8 - (2 + min 6 (n - 6 * ((n - 1) / 6))) = _
    omega
section
variable {w : World} {g h d t : Nat} {a : At} {X : DS} {N C : Nat} {f : Nat → LRec} {n : Nat}
/-- one more record -/
theorem fill_any (l : LogS w g h d t a X N C (fillB (N - 6) f n) (fillO n) (fillN n)) (hn : n < 6 * (N - 6)) (hC4 : C ≤ 3900) (kind : UInt8) (v : Value) (L : List (List UInt8)) (B : Nat) (hB : B ≤ w.heap.size) (hv : Parts w B v L) (hr : recOk (kind, L.flatten)) (hf : f n = (kind, L.flatten)) :
    Calls Tryz.prog 16 #[.pointer (some ⟨g, 0, none⟩), .int .u8 ((kind.toNat : Nat) : Int), v] w fun e w' => e = .returned (.tuple #[.agg (plc (n / 6) (2 + n % 6)).toArray, .int .i64 0]) ∧ ∃ X', LogS w' g h d t a X' N (C + 10) (fillB (N - 6) f (n + 1)) (fillO (n + 1)) (fillN (n + 1)) ∧ Chg w w' (a.log t d g h) := by
  have hN := l.lg.n
  by_cases h6 : n % 6 = 0
  · have hfull : ∀ (w' : World), Lg w' g h d t a X N C (fillB (N - 6) f n) (fillN n) → LOk (fillB (N - 6) f n) (fillO n) (fillN n) → ∀ p, Calls Tryz.prog 36 #[.pointer (some ⟨g, 0, none⟩), .agg (cl p)] w' fun e w2 => e = .returned (.tuple #[.agg (plc 0 0).toArray, .bool false, .int .i64 0]) ∧ Below w'.heap.size w' w2 := fun w' hl ho p => by
      by_cases h0 : n = 0
      · subst h0
        exact put_none hl ho rfl p
      · have hb := fillB_get (M := N - 6) f n (y := (n - 1) / 6) (by omega)
        exact put_full hl ho (fillO_last (by omega)) hb (by rw [fblk_seg (by omega)]; show 2 + min 6 _ = 8; omega) p
    have hb := fillB_get (M := N - 6) f n (y := n / 6) (by omega)
    have hle := fill_least (M := N - 6) f h6 (N - 6) (Nat.le_refl _)
    rw [if_neg (by omega)] at hle
    refine (append_new l hfull hle hb (by unfold fillN; omega) hC4 kind v L B hB hv hr).mono ?_
    rintro e w' ⟨rfl, X', l', c'⟩
    rw [← hf, fblk_new h6, List.set_set, fillB_step hn, fillO_step h6, show fillN n + 1 = fillN (n + 1) by unfold fillN; omega] at l'
    exact ⟨by rw [h6], X', l', c'⟩
  · have hb := fillB_get (M := N - 6) f n (y := n / 6) (by omega)
    have hl := fillO_last (n := n) (by omega)
    rw [show (n - 1) / 6 = n / 6 by omega] at hl
    have hnx : (fblk f n (n / 6)).next = 2 + n % 6 := by rw [fblk_seg (by omega)]; show 2 + min 6 _ = _; omega
    refine (append_in l hl hb (by rw [hnx]; omega) hC4 kind v L B hB hv hr).mono ?_
    rintro e w' ⟨rfl, X', l', c'⟩
    rw [← hf, fblk_put h6, fillB_step hn, fillO_same h6, show fillN n = fillN (n + 1) by unfold fillN; omega] at l'
    exact ⟨by rw [hnx], X', l'.more (by omega), c'⟩
end
end Go.Proofs.YtdiocjneakfdgaaGreatDoor

/- The laws of a log begin: one is laid; the document's example. Condition: the table of the check sum holds its sixteen numbers. -/
namespace Go.Proofs.YtdiocjneakfdgaaGreatDoor
open Go.RowKit
theorem freshE16 : (Ch.marked 16 []).fresh = some (layN 16) := by kernel_rfl
theorem lossE16 : (layN 16).losses = 0 := by kernel_rfl
theorem freshE17 : (Ch.marked 17 []).fresh = some (layN 17) := by kernel_rfl
theorem lossE17 : (layN 17).losses = 0 := by kernel_rfl
theorem freshE18 : (Ch.marked 18 []).fresh = some (layN 18) := by kernel_rfl
theorem lossE18 : (layN 18).losses = 0 := by kernel_rfl
theorem freshE19 : (Ch.marked 19 []).fresh = some (layN 19) := by kernel_rfl
theorem lossE19 : (layN 19).losses = 0 := by kernel_rfl
theorem freshE20 : (Ch.marked 20 []).fresh = some (layN 20) := by kernel_rfl
theorem lossE20 : (layN 20).losses = 0 := by kernel_rfl
theorem freshE21 : (Ch.marked 21 []).fresh = some (layN 21) := by kernel_rfl
theorem lossE21 : (layN 21).losses = 0 := by kernel_rfl
theorem freshE22 : (Ch.marked 22 []).fresh = some (layN 22) := by kernel_rfl
theorem lossE22 : (layN 22).losses = 0 := by kernel_rfl
theorem freshE23 : (Ch.marked 23 []).fresh = some (layN 23) := by kernel_rfl
theorem lossE23 : (layN 23).losses = 0 := by kernel_rfl
theorem freshE24 : (Ch.marked 24 []).fresh = some (layN 24) := by kernel_rfl
theorem lossE24 : (layN 24).losses = 0 := by kernel_rfl
theorem freshE25 : (Ch.marked 25 []).fresh = some (layN 25) := by kernel_rfl
theorem lossE25 : (layN 25).losses = 0 := by kernel_rfl
theorem freshE26 : (Ch.marked 26 []).fresh = some (layN 26) := by kernel_rfl
theorem lossE26 : (layN 26).losses = 0 := by kernel_rfl
theorem freshE27 : (Ch.marked 27 []).fresh = some (layN 27) := by kernel_rfl
theorem lossE27 : (layN 27).losses = 0 := by kernel_rfl
theorem freshE28 : (Ch.marked 28 []).fresh = some (layN 28) := by kernel_rfl
theorem lossE28 : (layN 28).losses = 0 := by kernel_rfl
theorem freshE29 : (Ch.marked 29 []).fresh = some (layN 29) := by kernel_rfl
theorem lossE29 : (layN 29).losses = 0 := by kernel_rfl
theorem freshE30 : (Ch.marked 30 []).fresh = some (layN 30) := by kernel_rfl
theorem lossE30 : (layN 30).losses = 0 := by kernel_rfl
theorem freshE31 : (Ch.marked 31 []).fresh = some (layN 31) := by kernel_rfl
theorem lossE31 : (layN 31).losses = 0 := by kernel_rfl
theorem freshE32 : (Ch.marked 32 []).fresh = some (layN 32) := by kernel_rfl
theorem lossE32 : (layN 32).losses = 0 := by kernel_rfl
theorem freshE33 : (Ch.marked 33 []).fresh = some (layN 33) := by kernel_rfl
theorem lossE33 : (layN 33).losses = 0 := by kernel_rfl
theorem freshE34 : (Ch.marked 34 []).fresh = some (layN 34) := by kernel_rfl
theorem lossE34 : (layN 34).losses = 0 := by kernel_rfl
theorem freshE35 : (Ch.marked 35 []).fresh = some (layN 35) := by kernel_rfl
theorem lossE35 : (layN 35).losses = 0 := by kernel_rfl
theorem freshE36 : (Ch.marked 36 []).fresh = some (layN 36) := by kernel_rfl
theorem lossE36 : (layN 36).losses = 0 := by kernel_rfl
theorem freshE37 : (Ch.marked 37 []).fresh = some (layN 37) := by kernel_rfl
theorem lossE37 : (layN 37).losses = 0 := by kernel_rfl
theorem freshE38 : (Ch.marked 38 []).fresh = some (layN 38) := by kernel_rfl
theorem lossE38 : (layN 38).losses = 0 := by kernel_rfl
theorem freshE39 : (Ch.marked 39 []).fresh = some (layN 39) := by kernel_rfl
theorem lossE39 : (layN 39).losses = 0 := by kernel_rfl
theorem freshE40 : (Ch.marked 40 []).fresh = some (layN 40) := by kernel_rfl
theorem lossE40 : (layN 40).losses = 0 := by kernel_rfl
theorem freshAll (N : Nat) (h : 16 ≤ N ∧ N ≤ 40) : (Ch.marked N []).fresh = some (layN N) ∧ (layN N).losses = 0 := by
  have hc : N = 16 ∨ N = 17 ∨ N = 18 ∨ N = 19 ∨ N = 20 ∨ N = 21 ∨ N = 22 ∨ N = 23 ∨ N = 24 ∨ N = 25 ∨ N = 26 ∨ N = 27 ∨ N = 28 ∨ N = 29 ∨ N = 30 ∨ N = 31 ∨ N = 32 ∨ N = 33 ∨ N = 34 ∨ N = 35 ∨ N = 36 ∨ N = 37 ∨ N = 38 ∨ N = 39 ∨ N = 40 := by omega
  rcases hc with rfl | rfl | rfl | rfl | rfl | rfl | rfl | rfl | rfl | rfl | rfl | rfl | rfl | rfl | rfl | rfl | rfl | rfl | rfl | rfl | rfl | rfl | rfl | rfl | rfl
  · exact ⟨freshE16, lossE16⟩
  · exact ⟨freshE17, lossE17⟩
  · exact ⟨freshE18, lossE18⟩
  · exact ⟨freshE19, lossE19⟩
  · exact ⟨freshE20, lossE20⟩
  · exact ⟨freshE21, lossE21⟩
  · exact ⟨freshE22, lossE22⟩
  · exact ⟨freshE23, lossE23⟩
  · exact ⟨freshE24, lossE24⟩
  · exact ⟨freshE25, lossE25⟩
  · exact ⟨freshE26, lossE26⟩
  · exact ⟨freshE27, lossE27⟩
  · exact ⟨freshE28, lossE28⟩
  · exact ⟨freshE29, lossE29⟩
  · exact ⟨freshE30, lossE30⟩
  · exact ⟨freshE31, lossE31⟩
  · exact ⟨freshE32, lossE32⟩
  · exact ⟨freshE33, lossE33⟩
  · exact ⟨freshE34, lossE34⟩
  · exact ⟨freshE35, lossE35⟩
  · exact ⟨freshE36, lossE36⟩
  · exact ⟨freshE37, lossE37⟩
  · exact ⟨freshE38, lossE38⟩
  · exact ⟨freshE39, lossE39⟩
  · exact ⟨freshE40, lossE40⟩
/-- a log that was laid for a law -/
structure Begun8 (w w' : World) (g h d t : Nat) (a : At) (X : DS) (N : Nat) : Prop where
  log : ∀ f, LogS w' g h d t a X N 401 (fillB (N - 6) f 0) (fillO 0) (fillN 0)
  far : ∀ j, a.log t d g h j → w.heap.size ≤ j
  below : Below w.heap.size w w'
  told : a.mp = none ∧ a.me = none
theorem newB_blank {X : DS} {M : Nat} (h : ∀ y, y < M → Has (X.blk y) []) (f : Nat → LRec) : newB X M M = fillB M f 0 := by
  rw [newB_full]
  unfold fillB
  refine List.map_congr_left fun y hy => ?_
  rw [fblk_free (Nat.zero_le _)]
  have : tv X y = 0 := by
    unfold tv
    rw [(h y (List.mem_range.1 hy)).ff 0 (Nat.zero_le _) (by omega), tells_ff]
    rfl
  rw [this]
set_option maxRecDepth 100000 in
set_option maxHeartbeats 8000000 in
theorem laid8_any (N : Nat) (hN : 16 ≤ N ∧ N ≤ 40) (w : World) (ht : Tab w) :
    Calls Tryz.prog 6 #[.int .i64 (N : Int)] w fun er w' => ∃ g h d t a X, er = .returned (.pointer (some ⟨g, 0, none⟩)) ∧ Begun8 w w' g h d t a X N := by
  have k0 := newpower_any w
  have HT := Lib.hid ht
  have HN := Lib.hid hN
  have HF := Lib.hid (freshAll N hN).1
  have H0 := Lib.hid (freshAll N hN).2
  clear ht hN
  go_enter Tryz.func6, Tryz.ntmps6
  go_wp2_with ((with_reducible refine k0.mono ?_); rintro e w1 ⟨rfl, P1, b1⟩)
  have hn : Nums w1 w1.heap.size .i64 (.slice none 0 0) [] := ⟨none, 0, rfl, Nat.le_refl _, Nat.zero_le _, (fun j u h => by simp at h), fun z h => by cases h⟩
  have k1 := devNew HT.out b1 w.heap.size (Nat.le_refl _) P1 N HN.out [] _ hn rfl
  have hbh : At.behind ⟨w1.heap.size + 1, w1.heap.size, w.heap.size, none, none⟩ w.heap.size := behind_new b1.size (Nat.le_refl _)
  have HB1 := Lib.hid b1
  have HBH := Lib.hid hbh
  clear k0 P1 b1 hn hbh
  go_wp2_with fail
  ((with_reducible refine k1.mono ?_); rintro e w2 ⟨rfl, D2, b2⟩)
  have B2 : Hid (Below w.heap.size w w2) := Lib.hid (HB1.out.trans (b2.mono HB1.out.size))
  obtain ⟨a, ha⟩ : ∃ a : At, a = ⟨w1.heap.size + 1, w1.heap.size, w.heap.size, none, none⟩ := ⟨_, rfl⟩
  have hac : w1.heap.size + 1 = a.c := by rw [ha]
  have HMN : Hid (a.mp = none ∧ a.me = none) := Lib.hid (by rw [ha]; exact ⟨rfl, rfl⟩)
  rw [hac]
  rw [← ha] at D2 HBH
  have k2 := begin_any HN.out HF.out H0.out D2 B2.out HBH.out
  clear b2 HB1 k1 ha hac D2
  go_wp2_with fail
  ((with_reducible refine k2.mono ?_); rintro e w3 ⟨d, t, X, rfl, hX⟩)
  have HX := Lib.hid hX
  have htv : ∀ y, y < N - 6 → tv X y < 1000000 := fun y hy => by
    unfold tv
    rw [(hX.blank y hy).ff 0 (Nat.zero_le _) (by omega), tells_ff]
    decide
  have KN := Lib.hid (new_any8 (C := 1) ⟨0, 0, hX.one, fun _ _ => ⟨rfl, rfl, hX.lay, fun _ y hy i hi => .inl ((hX.blank y hy).ff i (Nat.zero_le _) hi)⟩⟩ htv (by omega))
  clear k2 hX htv
  go_wp2_with (go_at_call 21; ((with_reducible refine KN.out.mono ?_); rintro e w4 ⟨g, h, X', rfl, l4, hg, hh, c4⟩; have L4 := Lib.hid l4; have HG := Lib.hid hg; have HH := Lib.hid hh; have C4 := Lib.hid c4; clear l4 hg hh c4 KN))
  go_ret
  refine ⟨g, h, d, t, a, X', rfl, fun f => ?_, fun j hj => ?_, ?_, HMN.out⟩
  · have := L4.out
    rw [newB_blank HX.out.blank f] at this
    exact this
  · rcases hj with q | rfl | rfl
    · exact HX.out.far j q
    · exact Nat.le_trans HX.out.below.size HG.out
    · exact Nat.le_trans HX.out.below.size HH.out
  · exact HX.out.below.trans (C4.out.below HX.out.far HX.out.below.size)
end Go.Proofs.YtdiocjneakfdgaaGreatDoor

/- The document's example for a log, as the laws begin: it answers true. Condition: the table of the check sum holds its sixteen numbers. -/
namespace Go.Proofs.YtdiocjneakfdgaaGreatDoor
open Go.RowKit
theorem wrap_u8n {k : Nat} (_ : k < 256) : IntKind.u8.wrap (k : Int) = (((UInt8.ofNat k).toNat : Nat) : Int) := by
  rw [IntKind.wrap_u8, UInt8.toNat_ofNat']
  omega
/-- a byte, as a law hands it in: a part of its own -/
theorem one_part (w : World) (b : UInt8) : ∃ Ls, Parts ((w.alloc (.cells #[.int .u8 ((b.toNat : Nat) : Int)] 5 (0, 0))).alloc (.cells #[.slice (some ⟨w.heap.size, 0, none⟩) 1 1] 62)) (w.heap.size + 2) (.slice (some ⟨w.heap.size + 1, 0, none⟩) 1 1) Ls ∧ Ls.flatten = [b] := by
  have Y := Bytes.lit w [b] 1 rfl (by simp [maxLen]) #[.int .u8 ((b.toNat : Nat) : Int)] rfl 5 (0, 0) w.heap.size rfl (w.heap.size + 1) (Nat.lt_succ_self _)
  exact Joined.one Y (by rw [World.size_alloc]; exact Nat.le_refl _) (w.heap.size + 1) (by rw [World.size_alloc]) (w.heap.size + 2) (Nat.lt_succ_self _) 62
theorem rec_one {k : UInt8} (h0 : k ≠ 0) (h1 : k ≠ 255) (h2 : k ≠ 1) (h3 : k ≠ 2) (h4 : k ≠ 3) {l : List UInt8} (hl : l.length ≤ 240) : recOk (k, l) := ⟨⟨h0, h1, h2, h3, h4⟩, hl⟩
set_option maxRecDepth 100000 in
set_option maxHeartbeats 8000000 in
theorem speaks8_any (w : World) (ht : Tab w) : Calls Tryz.prog 4 #[] w fun er w' => er = .returned (.bool true) ∧ Below w.heap.size w w' := by
  have KL : Hid (Calls Tryz.prog 6 #[.int .i64 16] w fun er w' => ∃ g h d t a X, er = .returned (.pointer (some ⟨g, 0, none⟩)) ∧ Begun8 w w' g h d t a X 16) := Lib.hid (laid8_any 16 (by omega) w ht)
  clear ht
  go_enter Tryz.func4, Tryz.ntmps4
  go_wp2_with (go_at_call 6; ((with_reducible refine KL.out.mono ?_); rintro e w1 ⟨g, h, d, t, a, X, rfl, hB⟩; have HL1 := Lib.hid (hB.log (fun i => (10, [UInt8.ofNat i]))); have HF := Lib.hid hB.far; have HB1 := Lib.hid hB.below; clear hB KL))
  go_loopw [2, 3, 4] (fun vi _ _ wr => ∃ i : Nat, vi = .int .i64 (i : Int) ∧ i ≤ 7 ∧ Hid (∃ X, LogS wr g h d t a X 16 (401 + 10 * i) (fillB (16 - 6) (fun i => (10, [UInt8.ofNat i])) i) (fillO i) (fillN i)) ∧ Hid (Below w.heap.size w wr)) (fun vi _ _ _ => 7 - (intOf vi).toNat)
  case atStart => exact ⟨0, rfl, by omega, Lib.hid ⟨X, HL1.out⟩, HB1⟩
  case round =>
    obtain ⟨i, rfl, hi, HX, hb⟩ := hrel
    obtain ⟨X1, hl⟩ := HX.out
    have LS := Lib.hid hl
    clear HX hl
    by_cases hlt : i < 7
    · have ew := wrap_u8n (k := i) (by omega)
      obtain ⟨b, hbb⟩ : ∃ b, UInt8.ofNat i = b := ⟨_, rfl⟩
      rw [hbb] at ew
      obtain ⟨Ls, hP, hfl⟩ := one_part wr b
      have b1 := Lib.hid (((Below.refl wr.heap.size wr).alloc (Nat.le_refl _) (.cells #[.int .u8 ((b.toNat : Nat) : Int)] 5 (0, 0))).alloc (by simp) (.cells #[.slice (some ⟨wr.heap.size, 0, none⟩) 1 1] 62))
      have KA : Hid (Calls Tryz.prog 16 #[.pointer (some ⟨g, 0, none⟩), .int .u8 10, .slice (some ⟨wr.heap.size + 1, 0, none⟩) 1 1] ((wr.alloc (.cells #[.int .u8 ((b.toNat : Nat) : Int)] 5 (0, 0))).alloc (.cells #[.slice (some ⟨wr.heap.size, 0, none⟩) 1 1] 62)) fun e w' => e = .returned (.tuple #[.agg (plc (i / 6) (2 + i % 6)).toArray, .int .i64 0]) ∧ ∃ X', LogS w' g h d t a X' 16 (401 + 10 * i + 10) (fillB (16 - 6) (fun i => (10, [UInt8.ofNat i])) (i + 1)) (fillO (i + 1)) (fillN (i + 1)) ∧ Chg ((wr.alloc (.cells #[.int .u8 ((b.toNat : Nat) : Int)] 5 (0, 0))).alloc (.cells #[.slice (some ⟨wr.heap.size, 0, none⟩) 1 1] 62)) w' (a.log t d g h)) :=
        Lib.hid (fill_any (LS.out.after b1.out) (by omega) (by omega) 10 _ Ls (wr.heap.size + 2) (by simp) hP (by rw [hfl]; exact rec_one (by decide) (by decide) (by decide) (by decide) (by decide) (by simp)) (by rw [hfl, hbb]))
      have hm : (2 : Int) + (i : Int) % 6 = ((2 + i % 6 : Nat) : Int) := by omega
      obtain ⟨pg, hpg⟩ : ∃ pg, 2 + i % 6 = pg := ⟨_, rfl⟩
      obtain ⟨px, hpx⟩ : ∃ px, i / 6 = px := ⟨_, rfl⟩
      have HPV := Lib.hid (show (plc px pg).toArray = #[.int .i64 (px : Int), .int .i64 (pg : Int)] from rfl)
      rw [hpg] at KA hm
      rw [hpx, HPV.out] at KA
      have hrem : (i : Int).tmod 6 = (i : Int) % 6 := Int.tmod_eq_emod_of_nonneg (by omega)
      clear hP hfl hbb hpg hpx
      go_wp2_with (go_at_call 16; ((with_reducible refine KA.out.mono ?_); rintro e w5 ⟨rfl, X', l5, c5⟩; have L5 := Lib.hid l5; have B5 := Lib.hid ((hb.out.trans (b1.out.mono hb.out.size)).trans (c5.below HF.out (Nat.le_trans hb.out.size b1.out.size))); clear l5 c5 KA))
      go_roundw
      case rel => exact ⟨i + 1, by go_num, by omega, Lib.hid ⟨X', (L5.out.after (by first | exact (Below.refl _ _).alloc (Nat.le_refl _) _)).more (by omega)⟩, Lib.hid (B5.out.alloc B5.out.size _)⟩
      case measure => simp [intOf]; omega
    · obtain rfl : i = 7 := by omega
      have KS := Lib.hid (segments_any LS.out.lg LS.out.o.ord (by unfold fillO fillN; simp))
      rw [show (fillO 7).length = 2 by unfold fillO fillN; simp] at KS
      have KR := Lib.hid (fun (w' : World) (hl : LogS w' g h d t a X1 16 (401 + 10 * 7) (fillB (16 - 6) (fun i => (10, [UInt8.ofNat i])) 7) (fillO 7) (fillN 7)) => room_any8 hl.lg hl.o)
      rw [fill_room _ (by omega)] at KR
      go_wp2_with (first
        | (go_at_call 8; ((with_reducible refine KS.out.mono ?_); rintro e w5 ⟨A, c, rs, rfl, _, _, b5⟩; have B5 := Lib.hid (hb.out.trans (b5.mono hb.out.size)); have K6 := Lib.hid (KR.out w5 (LS.out.after b5)); clear KS b5))
        | (go_at_call 17; ((with_reducible refine K6.out.mono ?_); rintro e w6 ⟨rfl, b6⟩; have B6 := Lib.hid (B5.out.trans (b6.mono B5.out.size)); clear K6 b6)))
      go_ret
      exact ⟨rfl, B6.out⟩
end Go.Proofs.YtdiocjneakfdgaaGreatDoor

/- A full log from which one segment was dropped, and filled again: plain facts; each Append of it; a log that isn't laid. Condition: the log is in order; few calls so far. -/
namespace Go.Proofs.YtdiocjneakfdgaaGreatDoor
open Go.RowKit
def dblk (M k : Nat) : LB := match k with
  | 0 => LB.fresh 2
  | k + 1 => ⟨2, false, true, M + 1, 2 + (k + 1), List.replicate (k + 1) (61, [])⟩
def dropB (M : Nat) (f : Nat → LRec) (y k : Nat) : List LB := (fillB M f (6 * M)).set y (dblk M k)
def dropO (M y : Nat) : Nat → List Nat
  | 0 => (fillO (6 * M)).filter (fun z => decide (z ≠ y))
  | _ + 1 => (fillO (6 * M)).filter (fun z => decide (z ≠ y)) ++ [y]
def dropN (M : Nat) : Nat → Nat
  | 0 => fillN (6 * M)
  | _ + 1 => fillN (6 * M) + 1
section
variable {w : World} {g h d t : Nat} {a : At} {X : DS} {N C : Nat} {f : Nat → LRec} {y k : Nat}
end
set_option maxRecDepth 100000 in
set_option maxHeartbeats 8000000 in
/-- no log of so many blocks -/
theorem laid8_no (n : Int) (hn : n < 16 ∨ 40 < n) (w : World) :
    Calls Tryz.prog 6 #[.int .i64 n] w fun er w' => er = .returned (.pointer none) ∧ Below w.heap.size w w' := by
  have k0 := newpower_any w
  have HE := Lib.hid (show newE n [] = 1 from by unfold newE; rw [if_pos]; rcases hn with q | q; exact .inl q; exact .inr (.inl q))
  clear hn
  go_enter Tryz.func6, Tryz.ntmps6
  go_wp2_with ((with_reducible refine k0.mono ?_); rintro e w1 ⟨rfl, P1, b1⟩)
  have hv : Nums w1 w1.heap.size .i64 (.slice none 0 0) [] := ⟨none, 0, rfl, Nat.le_refl _, Nat.zero_le _, (fun j u h => by simp at h), fun z h => by cases h⟩
  have k1 := newR_any n [] _ w.heap.size w1 hv HE.out
  have HB1 := Lib.hid b1
  clear k0 P1 b1 hv
  go_wp2_with fail
  ((with_reducible refine k1.mono ?_); rintro e w2 ⟨rfl, b2⟩)
  have B2 : Hid (Below w.heap.size w w2) := Lib.hid (HB1.out.trans (b2.mono HB1.out.size))
  clear b2 HB1 k1
  go_wp2_with fail
  go_ret
  exact ⟨rfl, B2.out⟩
/-- a number's low part, and what is left of it -/
theorem low8 (z : Int) {m : Nat} (hm : 0 < m) : ∃ x : Nat, (bits .and .i64 z 65535).tmod (m : Int) = (x : Int) ∧ x < m := by
  obtain ⟨y, hy⟩ : ∃ y : Nat, bits .and .i64 z 65535 = (y : Int) := by
    have e : (BitVec.ofInt 64 z &&& BitVec.ofInt 64 65535).toNat = (z % 18446744073709551616).toNat % 2 ^ 16 := by
      rw [BitVec.toNat_and, show (BitVec.ofInt 64 65535).toNat = 2 ^ 16 - 1 from rfl, Nat.and_two_pow_sub_one_eq_mod, BitVec.toNat_ofInt]
      rfl
    refine ⟨(z % 18446744073709551616).toNat % 2 ^ 16, ?_⟩
    unfold bits
    show IntKind.i64.wrap ((BitVec.ofInt 64 z &&& BitVec.ofInt 64 65535).toNat : Int) = _
    rw [e, IntKind.wrap_i64]
    omega
  rw [hy]
  have h1 := Nat.mod_lt y hm
  exact ⟨y % m, by rw [Int.tmod_eq_emod_of_nonneg (by omega)]; omega, h1⟩
end Go.Proofs.YtdiocjneakfdgaaGreatDoor

