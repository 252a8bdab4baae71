/- Several texts of the proof, joined: what each has is said at its head. -/
import Derived.Test.YtdiocjneakfdgaaGreatDoorQLogF
import Derived.Test.YtdiocjneakfdgaaGreatDoorQLogA
import Derived.Test.YtdiocjneakfdgaaGreatDoorQCore
/- What a log finds of a block that it opens. Condition: the block holds a log's pages, though one bit of each may have turned. -/
namespace Go.Proofs.YtdiocjneakfdgaaGreatDoor
open Go.RowKit
/-- a block, as a log that is opened finds it -/
def LB.opened (b : LB) : LB := if b.seg = true then ⟨b.wear, false, true, b.num, 2 + b.recs.length, b.recs⟩ else ⟨b.wear, false, false, 0, 2, []⟩
theorem opened_seg {b : LB} (h : b.seg = true) : b.opened = ⟨b.wear, false, true, b.num, 2 + b.recs.length, b.recs⟩ := by unfold LB.opened; rw [if_pos h]
theorem opened_free {b : LB} (h : b.seg = false) : b.opened = ⟨b.wear, false, false, 0, 2, []⟩ := by unfold LB.opened; rw [if_neg (by rw [h]; decide)]
theorem opened_is (b : LB) : b.opened.seg = b.seg ∧ b.opened.wear = b.wear ∧ b.opened.clr = false ∧ b.opened.pages = b.pages := by
  cases h : b.seg with
  | true => rw [opened_seg h, pages_seg h]; exact ⟨rfl, rfl, rfl, pages_seg rfl⟩
  | false => rw [opened_free h, pages_free h]; exact ⟨rfl, rfl, rfl, pages_free rfl⟩
theorem opened_ok {b : LB} (h : b.ok) : b.opened.ok := by
  cases hs : b.seg with
  | true => rw [opened_seg hs]; exact ⟨h.wear, h.num, h.recs, h.kinds, (fun q => by cases q), fun _ => .inl rfl⟩
  | false => rw [opened_free hs]; exact ⟨h.wear, by show (0 : Nat) < _; omega, by show (0 : Nat) ≤ 6; omega, (fun r q => by cases q), fun _ => rfl, fun q => by cases q⟩
section
variable {w : World} {g h d t : Nat} {a : At} {X : DS} {N K : Nat} {Bs : List LB} {num : Nat}
theorem opened_wear {b : LB} {B : Bk} (h : b.ok) (hH : HasN B b.pages) : tellsM (B.pg.getD 0 []) 2 = some b.opened.wear := by
  have hn := hH.pg 0 (by unfold LB.pages; simp)
  rw [(opened_is b).2.1]
  exact tells_num (by decide) (by decide) h.wear hn
theorem opened_head {b : LB} {B : Bk} (h : b.ok) (hH : HasN B b.pages) : tellsM (B.pg.getD 1 []) 3 = if b.opened.seg = true then some b.opened.num else none := by
  cases hs : b.seg with
  | true =>
    have hp := pages_seg hs
    have hn := hH.pg 1 (by rw [hp]; simp)
    rw [hp] at hn
    rw [opened_seg hs, if_pos rfl]
    exact tells_num (by decide) (by decide) h.num hn
  | false =>
    rw [hH.ff 1 (by rw [pages_len_free hs]; omega) (by omega), tells_ff, opened_free hs]
    rfl
theorem opened_next {b : LB} {B : Bk} (h : b.ok) (hH : HasN B b.pages) : behindM (fun i => B.pg.getD i []) 8 = b.opened.next := by
  rw [behind_has hH h.isRec 8 h.le8 (Nat.le_refl _)]
  cases hs : b.seg with
  | true => rw [pages_len_seg hs, opened_seg hs]; show max 2 (2 + b.recs.length) = 2 + b.recs.length; omega
  | false => rw [pages_len_free hs, opened_free hs]; rfl
theorem bret3 {fn : Func} {p u v : Tmp} {w : World} {q : Nat} {t : TypeId} {vs : List Value} (h : fn.results = #[.cell p 80, .tmp u, .tmp v]) (tmps : Array Value) (hB : Blk w q t vs) (hn : vs.length = 5) (hp : tmps.getD p undef = .pointer (some ⟨q, 0, none⟩)) :
    (results fn tmps).run Tryz.prog w = .ok (.tuple #[.agg vs.toArray, tmps.getD u undef, tmps.getD v undef]) w := by
  have hp' : tmps[p]?.getD undef = .pointer (some ⟨q, 0, none⟩) := by simpa using hp
  simp [results, h, hp', asAddr, seg_load aggB sizeB hB (by rw [List.drop_zero, List.take_of_length_le (by omega)]) hn]
set_option maxRecDepth 100000 in
set_option maxHeartbeats 8000000 in
theorem look8_any (l : Lg w g h d t a X N K Bs num) {x : Nat} (hx : x < N - 6) {b : LB} (hb : b.ok) (hH : HasN (X.blk x) b.pages) :
    Calls Tryz.prog 56 #[.pointer (some ⟨g, 0, none⟩), .int .i64 (x : Int)] w fun e w' => e = .returned (.tuple #[.agg (brow b.opened).toArray, .bool true, .int .i64 0]) ∧ Below w.heap.size w w' := by
  have b1 := Lib.hid ((Below.refl w.heap.size w).alloc (Nat.le_refl _) (.cells #[.int .u64 0, .bool false, .bool false, .int .u64 0, .int .i64 0] 80))
  have R1 := Lib.hid (show Blk (w.alloc (.cells #[.int .u64 0, .bool false, .bool false, .int .u64 0, .int .i64 0] 80)) w.heap.size 80 (brow LB.zero) from Blk.new w 80 (brow LB.zero))
  have L1 := l.after b1.out
  obtain ⟨bw, hw⟩ : ∃ bw, b.opened.wear = bw := ⟨_, rfl⟩
  obtain ⟨bs, hs⟩ : ∃ bs, b.opened.seg = bs := ⟨_, rfl⟩
  obtain ⟨bn, hn⟩ : ∃ bn, b.opened.num = bn := ⟨_, rfl⟩
  obtain ⟨bx, hx2⟩ : ∃ bx, b.opened.next = bx := ⟨_, rfl⟩
  have HR := Lib.hid (show brow b.opened = [.int .u64 (bw : Int), .bool false, .bool bs, .int .u64 (bn : Int), .int .i64 (bx : Int)] by unfold brow; rw [hw, hs, hn, hx2, (opened_is b).2.2.1])
  have e0 := opened_wear hb hH
  have e1 := opened_head hb hH
  have e2 := opened_next hb hH
  rw [hw] at e0
  rw [hs, hn] at e1
  rw [hx2] at e2
  have K0 : Hid (Calls Tryz.prog 45 #[.pointer (some ⟨g, 0, none⟩), .int .i64 (x : Int), .int .i64 0, .int .u8 2] (w.alloc (.cells #[.int .u64 0, .bool false, .bool false, .int .u64 0, .int .i64 0] 80)) fun e w' => e = .returned (.tuple #[.int .u64 (bw : Int), .bool true, .int .i64 0]) ∧ Below (w.alloc (.cells #[.int .u64 0, .bool false, .bool false, .int .u64 0, .int .i64 0] 80)).heap.size (w.alloc (.cells #[.int .u64 0, .bool false, .bool false, .int .u64 0, .int .i64 0] 80)) w') := Lib.hid (by
    have := tells_any L1 hx (k := 0) (by omega) 2
    unfold tellsV at this
    rw [e0] at this
    exact this)
  have hz : bs = false → bn = 0 := fun q => by
    rw [← hs, (opened_is b).1] at q
    rw [← hn, opened_free q]
  have K1 : Hid (∀ W, Below (w.alloc (.cells #[.int .u64 0, .bool false, .bool false, .int .u64 0, .int .i64 0] 80)).heap.size (w.alloc (.cells #[.int .u64 0, .bool false, .bool false, .int .u64 0, .int .i64 0] 80)) W → Calls Tryz.prog 45 #[.pointer (some ⟨g, 0, none⟩), .int .i64 (x : Int), .int .i64 1, .int .u8 3] W fun e w' => e = .returned (.tuple #[.int .u64 (bn : Int), .bool bs, .int .i64 0]) ∧ Below W.heap.size W w') := Lib.hid (fun W hW => by
    have := tells_any (L1.after hW) hx (k := 1) (by omega) 3
    unfold tellsV at this
    rw [e1] at this
    cases bs with
    | true => exact this
    | false => rw [hz rfl]; exact this)
  have K2 : Hid (∀ W, Below (w.alloc (.cells #[.int .u64 0, .bool false, .bool false, .int .u64 0, .int .i64 0] 80)).heap.size (w.alloc (.cells #[.int .u64 0, .bool false, .bool false, .int .u64 0, .int .i64 0] 80)) W → Calls Tryz.prog 81 #[.pointer (some ⟨g, 0, none⟩), .int .i64 (x : Int)] W fun e w' => e = .returned (.tuple #[.int .i64 (bx : Int), .int .i64 0]) ∧ Below W.heap.size W w') := Lib.hid (fun W hW => by
    have := behind_any (L1.after hW) hx
    rw [e2] at this
    exact this)
  have HO := Lib.hid (show ∀ v ∈ [Value.int .u64 (bw : Int), .bool false, .bool bs, .int .u64 (bn : Int), .int .i64 (bx : Int)], v.oneCell' = true by simp [Value.oneCell'])
  clear l hb hH hx hw hs hn hx2 e0 e1 e2 L1 hz
  go_enter Tryz.func56, Tryz.ntmps56
  go_wp2_with (first
    | (go_at_call 45; ((with_reducible refine K0.out.mono ?_); rintro e w2 ⟨rfl, b2⟩; have C2 := Lib.hid b2; have K3 := Lib.hid (K1.out _ C2.out); clear K0 b2))
    | (go_at_call 45; ((with_reducible refine K3.out.mono ?_); rintro e w3 ⟨rfl, b3⟩; have C3 := Lib.hid (C2.out.trans (b3.mono C2.out.size)); have K4 := Lib.hid (K2.out _ C3.out); clear K3 b3 K1))
    | (go_at_call 81; ((with_reducible refine K4.out.mono ?_); rintro e w4 ⟨rfl, b4⟩; have C4 := Lib.hid (C3.out.trans (b4.mono C3.out.size)); have R4 := R1.out.below C4.out (R1.out.lt); clear K4 b4 K2))
    | (with_reducible refine wpl_seg_store sizeB (.tmp 4) (.tmp 49) rfl rfl R4 0 [.int .u64 (bw : Int), .bool false, .bool bs, .int .u64 (bn : Int), .int .i64 (bx : Int)] rfl (Nat.le_refl _) HO.out rfl rfl _ rfl ?_; intro w6 R6 g6 e6))
  refine bodyPost_ret (bret3 rfl _ R6 rfl rfl) rfl ?_
  refine ⟨by rw [HR.out]; rfl, ?_⟩
  exact (b1.out.trans (C4.out.mono b1.out.size)).grown g6 (Nat.le_trans b1.out.size C4.out.size) (fun k e => by cases e; exact Nat.le_refl _)
end
end Go.Proofs.YtdiocjneakfdgaaGreatDoor

/- The place of an element of many cells, in a region that draws its order. Condition: the number lies below the length. -/
namespace Go.Proofs.YtdiocjneakfdgaaGreatDoor
open Go.RowKit
theorem yields_blk {ops : Array Oper} {o : Oper} {a : Act} {S : World → Prop} {g n c i : Nat} (x y : Operand) (ho : o.op = .indexAddr 30 x y) (hgd : Region.wanted o (yielded ops a.tmps) = true)
    (hx : a.eval x = .slice (some ⟨g, 0, none⟩) n c) (hy : a.eval y = .int .i64 (i : Int)) (hi : i < n) : YieldsIf Tryz.prog ops S o (.pointer (some ⟨g, i * 5, none⟩)) a :=
  .inl ⟨hgd, fun w hw => by
    have h0 : (0 : Int) ≤ (i : Int) ∧ (i : Int) < (n : Int) := by omega
    unfold execOp
    simp only [ho, hx, hy]
    by_cases e : i = 0
    · subst e
      simp [Instr.indexAt, asIntOf, Sem.run_bind, Result.andThen_ok, Addr.add, hi]
    · simp [Instr.indexAt, asIntOf, Sem.run_bind, Result.andThen_ok, h0, Addr.add, hi]
      omega⟩
/-- many cells are stored, at any place of a block -/
theorem seg_cells_at {P : Program} {w : World} {g i : Nat} {t : TypeId} {cs vs : List Value} (hB : Blk w g t cs) (hi : i + vs.length ≤ cs.length) (h1 : ∀ v ∈ vs, v.oneCell' = true) :
    ∃ w', (storeCells ⟨g, i, none⟩ vs).run P w = .ok () w' ∧ Blk w' g t (segSet cs i vs) ∧ w.grownBy w' (some g) ∧ w'.heap.size = w.heap.size := by
  have h := run_storeCells_at P g i t vs 0 cs.toArray w hB (by simp; omega) h1
  have e : cs.toArray.toList.take (i + 0) ++ vs ++ cs.toArray.toList.drop (i + 0 + vs.length) = segSet cs i vs := rfl
  rw [e] at h
  obtain ⟨r1, r2, r3⟩ := hB.seg (segSet cs i vs)
  exact ⟨_, h, r1, r2, r3⟩
end Go.Proofs.YtdiocjneakfdgaaGreatDoor

/- A log that is opened over a disk that holds one. Condition: the disk is in order, its blocks hold a log's pages, though one bit of each may have turned. -/
namespace Go.Proofs.YtdiocjneakfdgaaGreatDoor
open Go.RowKit
def opB (Bs : List LB) (M i : Nat) : List LB := (Bs.take i).map LB.opened ++ List.replicate (M - i) LB.zero
def opNum (Bs : List LB) : Nat → Nat
  | 0 => 0
  | k + 1 => max (opNum Bs k) ((Bs[k]?.map (fun b => b.opened.num)).getD 0)
theorem opB_full {Bs : List LB} {M : Nat} (h : Bs.length = M) : opB Bs M M = Bs.map LB.opened := by
  unfold opB
  rw [List.take_of_length_le (by omega), Nat.sub_self, List.replicate_zero, List.append_nil]
theorem opB_zero (Bs : List LB) (M : Nat) : opB Bs M 0 = List.replicate M LB.zero := by simp [opB]
theorem opB_at {Bs : List LB} {M i : Nat} (h : Bs.length = M) (hi : i < M) : (opB Bs M i)[i]? = some LB.zero := by
  unfold opB
  have hl : ((Bs.take i).map LB.opened).length = i := by rw [List.length_map, List.length_take]; omega
  rw [List.getElem?_append_right (by omega), hl, Nat.sub_self, List.getElem?_replicate, if_pos (by omega)]
theorem opB_step {Bs : List LB} {M i : Nat} {b : LB} (h : Bs.length = M) (hb : Bs[i]? = some b) : (opB Bs M i).set i b.opened = opB Bs M (i + 1) := by
  have hi := get_lt hb
  have hl : ((Bs.take i).map LB.opened).length = i := by rw [List.length_map, List.length_take]; omega
  unfold opB
  rw [List.set_append_right _ _ (by omega), hl, Nat.sub_self, show M - i = (M - (i + 1)) + 1 by omega, List.replicate_succ, List.set_cons_zero, List.take_add_one, hb]
  simp
theorem opNum_step {Bs : List LB} {i : Nat} {b : LB} (hb : Bs[i]? = some b) : opNum Bs (i + 1) = max (opNum Bs i) b.opened.num := by
  rw [opNum, hb]
  rfl
theorem opNum_le {Bs : List LB} : ∀ (k i : Nat) (b : LB), i < k → Bs[i]? = some b → b.opened.num ≤ opNum Bs k
  | 0, _, _, h, _ => absurd h (Nat.not_lt_zero _)
  | k + 1, i, b, h, hb => by
    by_cases e : i = k
    · subst e
      rw [opNum_step hb]
      exact Nat.le_max_right _ _
    · have := opNum_le k i b (by omega) hb
      unfold opNum
      exact Nat.le_trans this (Nat.le_max_left _ _)
theorem opened_seg_at {Bs : List LB} (x : Nat) : segAt (Bs.map LB.opened) x = segAt Bs x := by
  cases h : Bs[x]? with
  | none =>
    unfold segAt
    rw [List.getElem?_map, h]
    rfl
  | some b => rw [segAt_get h, segAt_get (b := b.opened) (by rw [List.getElem?_map, h]; rfl), (opened_is b).1]
theorem opened_num_at {Bs : List LB} {x : Nat} (hx : segAt Bs x = true) : numAt (Bs.map LB.opened) x = numAt Bs x := by
  have hl := segAt_lt hx
  have h : Bs[x]? = some Bs[x] := List.getElem?_eq_getElem hl
  rw [segAt_get h] at hx
  rw [numAt_get h, numAt_get (b := Bs[x].opened) (by rw [List.getElem?_map, h]; rfl), opened_seg hx]
/-- a log that was opened is in order -/
theorem LOk.opened {Bs : List LB} {os : List Nat} {num : Nat} (h : LOk Bs os num) : LOk (Bs.map LB.opened) os (opNum Bs Bs.length) := by
  refine ⟨fun b hb => ?_, ⟨fun x => by rw [opened_seg_at]; exact h.ord.mem x, ?_⟩, fun b hb _ => ?_⟩
  · obtain ⟨q, hq, rfl⟩ := List.mem_map.1 hb
    exact opened_ok (h.ok q hq)
  · refine List.Pairwise.imp_of_mem ?_ h.ord.pw
    intro x y hx hy q
    rw [opened_num_at ((h.ord.mem x).1 hx), opened_num_at ((h.ord.mem y).1 hy)]
    exact q
  · obtain ⟨q, hq, rfl⟩ := List.mem_map.1 hb
    obtain ⟨i, hi, rfl⟩ := List.mem_iff_getElem.1 hq
    exact opNum_le _ i _ hi (List.getElem?_eq_getElem hi)
section
variable {w : World} {d t : Nat} {a : At} {X : DS} {N C : Nat} {Bs : List LB} {num : Nat} {os : List Nat}
set_option maxRecDepth 100000 in
set_option maxHeartbeats 8000000 in
theorem open_any8 (l : Dl w d t a X N C) (hl : Bs.length = N - 6) (ho : LOk Bs os num) (hh : LHas X Bs) :
    Calls Tryz.prog 33 #[.pointer (some ⟨d, 0, none⟩)] w fun e w' => ∃ g h, e = .returned (.tuple #[.pointer (some ⟨g, 0, none⟩), .int .i64 0]) ∧ Lg w' g h d t a X N C (Bs.map LB.opened) (opNum Bs (N - 6)) ∧ w.heap.size ≤ g ∧ w.heap.size ≤ h ∧ Below w.heap.size w w' := by
  have KO := Lib.hid (over_any l)
  have hn := l.n
  obtain ⟨M, hM⟩ : ∃ M, N - 6 = M := ⟨_, rfl⟩
  have HM := Lib.hid hM
  have hM40 : M ≤ 34 := by omega
  rw [hM] at KO hl ⊢
  have HL := Lib.hid hl
  have HK := Lib.hid (fun (i : Nat) (b : LB) (hb : Bs[i]? = some b) => And.intro (ho.ok b (get_mem hb)) (hh i b hb))
  clear l hl ho hh hM hn
  go_enter Tryz.func33, Tryz.ntmps33
  go_wp2_with (go_at_call 44; ((with_reducible refine KO.out.mono ?_); rintro e w1 ⟨g, h, rfl, L1, hg, hh, b1⟩; have HL1 := Lib.hid L1; have HG := Lib.hid hg; have HH := Lib.hid hh; have HB1 := Lib.hid b1; obtain ⟨_, c1, _⟩ := L1.cells; rw [HM.out] at c1; clear L1 hg hh b1 KO))
  go_loopw [5, 6, 7, 8, 9, 10, 20] (fun vg vu _ _ _ _ vi wr => ∃ i G : Nat, vi = .int .i64 (i : Int) ∧ i ≤ M ∧ vg = .int .u64 (G : Int) ∧ vu = .slice none 0 0 ∧ Hid (Lg wr g h d t a X N C (opB Bs M i) (opNum Bs i)) ∧ Hid (Below w.heap.size w wr)) (fun _ _ _ _ _ _ vi _ => M - (intOf vi).toNat)
  case atStart => exact ⟨0, 0, rfl, Nat.zero_le _, rfl, rfl, Lib.hid (by rw [opB_zero]; exact HL1.out), HB1⟩
  case round =>
    obtain ⟨i, G, rfl, hi, rfl, rfl, HLi, hB⟩ := hrel
    by_cases hlt : i < M
    · obtain ⟨b, hb⟩ : ∃ b, Bs[i]? = some b := ⟨_, List.getElem?_eq_getElem (by rw [HL.out]; exact hlt)⟩
      obtain ⟨hok, hhas⟩ := HK.out i b hb
      have KL := Lib.hid (look8_any HLi.out (by rw [HM.out]; exact hlt) hok hhas)
      have HS := Lib.hid (opB_step HL.out hb)
      have HN := Lib.hid (opNum_step hb)
      obtain ⟨bo, hbo⟩ : ∃ bo, b.opened = bo := ⟨_, rfl⟩
      rw [hbo] at KL HS HN
      have HAT := Lib.hid (opB_at (M := M) HL.out hlt)
      clear hok hhas hb hbo
      go_wp2_with (first
        | (go_at_call 56; ((with_reducible refine KL.out.mono ?_); rintro e w2 ⟨rfl, b2⟩; have C2 := Lib.hid b2; have R2 := (show Blk (w2.alloc (.cells #[.int .u64 0, .bool false, .bool false, .int .u64 0, .int .i64 0] 80)) w2.heap.size 80 (brow LB.zero) from Blk.new w2 80 (brow LB.zero)); clear KL b2))
        | (with_reducible refine wpl_seg_store sizeB (.tmp 8) (.tmp 27) rfl rfl R2 0 (brow bo) rfl (Nat.le_refl _) (brow_one bo) rfl rfl _ rfl ?_; intro w3 R3 g3 e3; have B3 := Lib.hid (C2.out.trans ((((Below.refl w2.heap.size w2).alloc (Nat.le_refl _) (.cells #[.int .u64 0, .bool false, .bool false, .int .u64 0, .int .i64 0] 80)).grown g3 (by simp) (fun k e => by cases e; exact Nat.le_refl _)).mono C2.out.size)); have R8 := Lib.hid R3; clear R2 R3 g3 e3))
      obtain ⟨p, hp⟩ : ∃ p, w2.heap.size = p := ⟨_, rfl⟩
      have HP := Lib.hid (show wr.heap.size ≤ p by rw [← hp]; exact C2.out.size)
      rw [hp] at R8 ⊢
      clear hp C2
      have L3 := Lib.hid (HLi.out.after B3.out)
      have hph : p ≠ h := by have h1 := HLi.out.lt h (Or.inr (Or.inr rfl)); have h2 := HP.out; omega
      have hgh : g ≠ h := HLi.out.gh
      have hgl : g < w3.heap.size := L3.out.lt g (Or.inr (Or.inl rfl))
      have hpl : p < w3.heap.size := R8.out.lt
      have HC1 := Lib.hid (show ∀ w', Chg w3 w' (fun j => j = h) → w'.cell? ⟨g, 1, none⟩ = some (.slice (some ⟨h, 0, none⟩) M M) from fun w' hc => (chgg_cell hc hgl hgh).trans (by have := L3.out.cells.2.1; rw [HM.out] at this; exact this))
      have HB8 := Lib.hid (show ∀ w', Chg w3 w' (fun j => j = h) → Blk w' p 80 (brow bo) from fun w' hc => R8.out.chg hc hph)
      have S0 : Chg w3 w3.drew (fun j => j = h) := Chg.of_below (Below.refl _ _).drew
      have HBh : Blk w3.drew h 80 ((opB Bs M i).flatMap brow) := L3.out.hb.drew
      have hfit : i * 5 + 5 ≤ ((opB Bs M i).flatMap brow).length := by rw [lflat_length]; have := get_lt HAT.out; omega
      obtain ⟨w4, e4, B4, g4, _⟩ := seg_cells_at (P := Tryz.prog) (vs := brow bo) HBh hfit (brow_one bo)
      have S4 : Chg w3 w4 (fun j => j = h) := S0.trans (Chg.of_grown g4 (fun k e => by cases e; rfl))
      refine wp_region_held_drew (S := (fun w' => Chg w3 w' (fun j => j = h))) (by kernel_rfl) S0 (fun _ => ?_)
      refine wpAnyH_take (i := 0) (v := .pointer (some ⟨g, 0, none⟩)) rfl (by kernel_rfl) (by kernel_rfl) (by kernel_rfl) (fun _ _ _ h => h) (Or.inl ⟨by kernel_rfl, fun w _ => by go_simp⟩) S0 ?_
      refine wpAnyH_take (i := 1) (v := .pointer (some ⟨g, 0, none⟩)) rfl (by kernel_rfl) (by kernel_rfl) (by kernel_rfl) (fun _ _ _ h => h) (Or.inl ⟨by kernel_rfl, fun w _ => by go_simp⟩) S0 ?_
      refine wpAnyH_take (i := 2) (v := .pointer (some ⟨g, 1, none⟩)) rfl (by kernel_rfl) (by kernel_rfl) (by kernel_rfl) (fun _ _ _ h => h) (Or.inl ⟨by kernel_rfl, fun w _ => by go_simp⟩) S0 ?_
      refine wpAnyH_take (i := 3) (v := .slice (some ⟨h, 0, none⟩) M M) rfl (by kernel_rfl) (by kernel_rfl) (by kernel_rfl) (fun _ _ _ h => h) (yields_one (ty := 30) (fun w => by kernel_rfl) (.tmp 35) (by kernel_rfl) (by kernel_rfl) (by kernel_rfl) HC1.out) S0 ?_
      refine wpAnyH_take (i := 4) (v := .int .i64 (i : Int)) rfl (by kernel_rfl) (by kernel_rfl) (by kernel_rfl) (fun _ _ _ h => h) (Or.inl ⟨by kernel_rfl, fun w _ => by go_simp⟩) S0 ?_
      refine wpAnyH_take (i := 5) (v := .agg (brow bo).toArray) rfl (by kernel_rfl) (by kernel_rfl) (by kernel_rfl) (fun _ _ _ h => h) (yields_seg aggB sizeB (.tmp 8) (by kernel_rfl) (by kernel_rfl) (by kernel_rfl) (g := p) (i := 0) HB8.out (show ((brow bo).drop 0).take 5 = brow bo from rfl) rfl) S0 ?_
      refine wpAnyH_take (i := 6) (v := .pointer (some ⟨h, i * 5, none⟩)) rfl (by kernel_rfl) (by kernel_rfl) (by kernel_rfl) (fun _ _ _ h => h) (yields_blk (c := M) (.tmp 36) (.tmp 37) (by kernel_rfl) (by kernel_rfl) (by kernel_rfl) (by kernel_rfl) hlt) S0 ?_
      refine wpAnyH_ready (rs := [7]) (by kernel_rfl) (by simp) (AllReadyH.cons rfl (fun K hK => ?_) AllReadyH.nil)
      go_simp
      refine hK.out _ _ S4 (fun _ => ?_)
      have L4 := Lib.hid (show Lg w4 g h d t a X N C (opB Bs M (i + 1)) (opNum Bs i) from by
        rw [← HS.out]
        exact (L3.out.after (Below.refl _ _).drew).blocks (by rw [← lflat_set _ _ _ (get_lt HAT.out)]; exact B4) (by rw [List.length_set]) g4)
      have R4 := Lib.hid (R8.out.chg S4 hph)
      have B44 := Lib.hid (show Chg wr w4 (fun j => j = h ∨ wr.heap.size ≤ j) from (Chg.of_below B3.out).trans (S4.more (fun j _ q => Or.inl q)))
      clear hK K B4 g4 e4 S0 HBh hfit HC1 HB8 c1 S4
      refine wpAnyH_done (by kernel_rfl) ?_ _
      obtain ⟨_, _, c2⟩ := L4.out.cells
      have f2 := L4.out.gb.free 2
      have c3 : w4.cell? ⟨p, 3, none⟩ = some (.int .u64 (bo.num : Int)) := R4.out.cell 3
      have hpg : p ≠ g := by have := HP.out; have h2 := HLi.out.lt g (Or.inr (Or.inl rfl)); omega
      have c0 : ∀ v, (w4.setCell ⟨g, 2, none⟩ v).cell? ⟨p, 0, none⟩ = some (.int .u64 (bo.wear : Int)) := fun v => (R4.out.chg (Chg.of_grown (S := fun j => j = g) (grown_setg w4 g 2 v) (fun k e => by cases e; rfl)) hpg).cell 0
      have HB5 := Lib.hid (fun (v : Value) => show Below w.heap.size w (w4.setCell ⟨g, 2, none⟩ v).drew from
        (hB.out.trans (((B44.out.more (T := fun j => j = h ∨ wr.heap.size ≤ j ∨ j = g) (fun j _ q => q.elim Or.inl (fun q => Or.inr (Or.inl q)))).trans (Chg.of_grown (grown_setg w4 g 2 v) (fun k e => by cases e; exact Or.inr (Or.inr rfl)))).below (fun j q => by
          rcases q with rfl | q | rfl
          · exact HH.out
          · exact Nat.le_trans hB.out.size q
          · exact HG.out) hB.out.size)).drew)
      have HL5 := Lib.hid (L4.out.number (L4.out.gb.set 2 (.int .u64 ((opNum Bs (i + 1) : Nat) : Int))) (grown_setg _ _ _ _))
      obtain ⟨nu, hnu⟩ : ∃ nu, opNum Bs i = nu := ⟨_, rfl⟩
      obtain ⟨bn, hbn⟩ : ∃ bn, bo.num = bn := ⟨_, rfl⟩
      obtain ⟨bw, hbw⟩ : ∃ bw, bo.wear = bw := ⟨_, rfl⟩
      have HMX := Lib.hid (show (if nu < bn then (bn : Int) else (nu : Int)) = ((opNum Bs (i + 1) : Nat) : Int) by rw [HN.out, hnu, hbn]; split <;> omega)
      rw [hnu] at c2
      rw [hbn] at c3
      rw [hbw] at c0
      clear hpg
      go_wp2
      go_region
      all_goals go_wp2
      all_goals exact ⟨⟨i + 1, if G < bw then bw else G, by simp, by omega, by split <;> rfl, rfl, Lib.hid (by rw [HMX.out]; exact HL5.out.after (Below.refl _ _).drew), Lib.hid (HB5.out _)⟩, by simp [intOf]; omega⟩
    · obtain rfl : i = M := by omega
      have hd : decide ((i : Int) < (i : Int)) = false := by simp
      have HF := Lib.hid (show Lg wr g h d t a X N C (Bs.map LB.opened) (opNum Bs i) by have := HLi.out; rwa [opB_full HL.out] at this)
      clear HLi HL1 HB1 c1
      go_wp2
      go_loopw [12, 63] (fun _ vi wq => vi = .int .i64 0 ∧ Hid (wq = wr)) (fun _ _ _ => 0)
      case atStart => exact ⟨rfl, Lib.hid rfl⟩
      case round =>
        obtain ⟨rfl, HE⟩ := hrel
        have hE := HE.out
        subst hE
        go_wp2
        go_ret2
        exact ⟨g, rfl, h, HF.out, HG.out, HH.out, hB.out⟩
/-- a disk is opened again -/
theorem Dl.open_ (l : Dl w d t a X N C) : Calls Tryz.prog 32 #[.pointer (some ⟨a.c, 0, none⟩)] w fun er w' => ∃ d' t', w.heap.size ≤ t' ∧ w.heap.size ≤ d' ∧ er = .returned (.tuple #[.pointer (some ⟨d', 0, none⟩), .int .i64 0]) ∧ Dl w' d' t' a X N C ∧ Below w.heap.size w w' := by
  obtain ⟨f, e, l, hlay⟩ := l
  refine (dopen_any l.dk.dev l.ok l.on).mono ?_
  rintro er w' ⟨d', t', h1, h2, rfl, D, b⟩
  have eX : (DS.mk X.S X.s X.l false) = X := by rw [← l.u]
  rw [eX] at D
  exact ⟨d', t', h1, h2, rfl, ⟨f, e, ⟨D, l.ok, l.on, l.last, l.u, l.few⟩, hlay⟩, b⟩
set_option maxRecDepth 100000 in
set_option maxHeartbeats 8000000 in
/-- the log of a law is opened again -/
theorem again8_any (l : Dl w d t a X N C) (hl : Bs.length = N - 6) (ho : LOk Bs os num) (hh : LHas X Bs) :
    Calls Tryz.prog 15 #[.pointer (some ⟨a.c, 0, none⟩)] w fun er w' => ∃ g h d' t', er = .returned (.pointer (some ⟨g, 0, none⟩)) ∧ Lg w' g h d' t' a X N C (Bs.map LB.opened) (opNum Bs (N - 6)) ∧ Below w.heap.size w w' := by
  have KD := Lib.hid l.open_
  have KL := Lib.hid (fun (w' : World) (d' t' : Nat) (l' : Dl w' d' t' a X N C) => open_any8 l' hl ho hh)
  clear l hl ho hh
  go_enter Tryz.func15, Tryz.ntmps15
  go_wp2_with (first
    | (go_at_call 32; ((with_reducible refine KD.out.mono ?_); rintro e w2 ⟨d', t', _, _, rfl, l2, b2⟩; have B2 := Lib.hid b2; have K2 := Lib.hid (KL.out _ _ _ l2); clear KD KL b2 l2))
    | (go_at_call 33; ((with_reducible refine K2.out.mono ?_); rintro e w3 ⟨g, h, rfl, l3, _, _, b3⟩; have B3 := Lib.hid (B2.out.trans (b3.mono B2.out.size)); have L3 := Lib.hid l3; clear K2 b3 l3)))
  go_ret
  exact ⟨g, h, d', t', rfl, L3.out, B3.out⟩
end
end Go.Proofs.YtdiocjneakfdgaaGreatDoor

