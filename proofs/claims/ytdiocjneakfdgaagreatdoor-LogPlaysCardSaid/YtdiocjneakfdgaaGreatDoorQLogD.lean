/- Several texts of the proof, joined: what each has is said at its head. -/
import Derived.Test.YtdiocjneakfdgaaGreatDoorQLogC
import Derived.Deep.LoopGhost
/- A record is written into a log's last segment. Condition: the log is in order; few calls so far. -/
namespace Go.Proofs.YtdiocjneakfdgaaGreatDoor
open Go.RowKit
section
variable {w : World} {g h d t : Nat} {a : At} {X : DS} {N C : Nat} {Bs : List LB} {num : Nat} {os : List Nat}
set_option maxRecDepth 100000 in
set_option maxHeartbeats 8000000 in
theorem try_any (l : Lg w g h d t a X N C Bs num) {x k : Nat} {b : LB} (hb : Bs[x]? = some b) {L : List (List UInt8)} (hL : HasN (X.blk x) L) (hk : L.length = k) (h8 : k < 8) (hs : ∀ q ∈ L, IsRec q) (hC4 : C ≤ 4000) {p : List UInt8} (hp : IsRec p) :
    Calls Tryz.prog 61 #[.pointer (some ⟨g, 0, none⟩), .int .i64 (x : Int), .int .i64 (k : Int), .agg (cl p)] w fun e w' => e = .returned (.tuple #[.bool true, .int .i64 0]) ∧ ∃ X', Wrote w w' g h d t a X X' N (C + 5) (Bs.set x { b with next := k + 1 }) num x (L ++ [p]) := by
  have z := zeroPage
  subst hk
  have hxl : x < N - 6 := by have := get_lt hb; rw [l.len] at this; exact this
  have HX := Lib.hid hxl
  have HB := Lib.hid hb
  have HPL := Lib.hid hp.length
  have b1 := Lib.hid ((Below.refl w.heap.size w).alloc (Nat.le_refl _) (.cells (cl p) 92))
  have L1 := Lib.hid (l.after b1.out)
  have P1 := Lib.hid (PArr.new w HPL.out)
  have HP := Lib.hid (fun (w' : World) (hl : Lg w' g h d t a X N C Bs num) => hl.dk.program hxl hL h8 hs hp hC4)
  have hdl := Lib.hid (fun k hk => l.dk.lt k hk)
  have HEQ := Lib.hid (show ∀ w, (Op.equalIn 10000 92 (.agg (cl p)) (.agg (cl p))).run Tryz.prog w = .ok true w from fun w => by rw [neqPage HPL.out HPL.out w, decide_eq_true rfl])
  have hhl := Lib.hid l.hb.lt
  have hn := l.n
  obtain ⟨k, hk⟩ : ∃ k, L.length = k := ⟨_, rfl⟩
  have HK8 := Lib.hid h8
  rw [hk] at HP h8 HK8 ⊢
  obtain ⟨M, hM⟩ : ∃ M, N - 6 = M := ⟨_, rfl⟩
  have hM40 : M ≤ 40 := by omega
  have HM := Lib.hid hM
  rw [hM] at hxl
  clear l hL hs hp hb hn hM hk
  go_enter Tryz.func61, Tryz.ntmps61
  obtain ⟨q0, _, _⟩ := L1.out.cells
  obtain ⟨qd, KC⟩ := L1.out.dk.count
  go_wp2_with (go_at_call 49; ((with_reducible refine KC.mono ?_); rintro e w' ⟨rfl, rfl⟩))
  obtain ⟨V, hV⟩ : ∃ V, w.alloc (.cells (cl p) 92) = V := ⟨_, rfl⟩
  obtain ⟨q, hq⟩ : ∃ q, w.heap.size = q := ⟨_, rfl⟩
  rw [hV] at b1 L1 P1 ⊢
  rw [hq] at P1 ⊢
  have HQ := Lib.hid hq
  obtain ⟨n1, hn1⟩ : ∃ n1, X.S.cnt = n1 := ⟨_, rfl⟩
  rw [hn1] at HP ⊢
  have S0 : V.drew.cell? ⟨g, 0, none⟩ = some (.pointer (some ⟨d, 0, none⟩)) ∧ PArr V.drew q p := ⟨L1.out.cells.1, P1.out⟩
  have KP := Lib.hid (HP.out V.drew (L1.out.after (Below.refl _ _).drew))
  clear HP hV hq KC q0 qd hn1
  refine wp_region_held_drew (S := (fun w' => w'.cell? ⟨g, 0, none⟩ = some (.pointer (some ⟨d, 0, none⟩)) ∧ PArr w' q p)) (by kernel_rfl) S0 (fun _ => ?_)
  refine wpAnyH_take (i := 0) (v := .pointer (some ⟨g, 0, none⟩)) rfl (by kernel_rfl) (by kernel_rfl) (by kernel_rfl) (fun _ _ _ h => h) (Or.inl ⟨by kernel_rfl, fun w _ => by go_simp⟩) S0 ?_
  refine wpAnyH_take (i := 1) (v := .pointer (some ⟨g, 0, none⟩)) rfl (by kernel_rfl) (by kernel_rfl) (by kernel_rfl) (fun _ _ _ h => h) (Or.inl ⟨by kernel_rfl, fun w _ => by go_simp⟩) S0 ?_
  refine wpAnyH_take (i := 2) (v := .pointer (some ⟨g, 0, none⟩)) rfl (by kernel_rfl) (by kernel_rfl) (by kernel_rfl) (fun _ _ _ h => h) (Or.inl ⟨by kernel_rfl, fun w _ => by go_simp⟩) S0 ?_
  refine wpAnyH_take (i := 3) (v := .pointer (some ⟨d, 0, none⟩)) rfl (by kernel_rfl) (by kernel_rfl) (by kernel_rfl) (fun _ _ _ h => h) (yields_one (ty := 29) (fun w => by kernel_rfl) (.tmp 23) (by kernel_rfl) (by kernel_rfl) (by kernel_rfl) (fun _ h => h.1)) S0 ?_
  refine wpAnyH_take (i := 4) (v := .int .i64 (x : Int)) rfl (by kernel_rfl) (by kernel_rfl) (by kernel_rfl) (fun _ _ _ h => h) (Or.inl ⟨by kernel_rfl, fun w _ => by go_simp⟩) S0 ?_
  refine wpAnyH_take (i := 5) (v := .int .i64 (k : Int)) rfl (by kernel_rfl) (by kernel_rfl) (by kernel_rfl) (fun _ _ _ h => h) (Or.inl ⟨by kernel_rfl, fun w _ => by go_simp⟩) S0 ?_
  refine wpAnyH_take (i := 6) (v := .agg (cl p)) rfl (by kernel_rfl) (by kernel_rfl) (by kernel_rfl) (fun _ _ _ h => h) (yields_pload (g := q) (.tmp 7) (by kernel_rfl) (by kernel_rfl) (by kernel_rfl) (fun _ h => h.2)) S0 ?_
  refine wpAnyH_ready (rs := [7]) (by kernel_rfl) (by simp) (AllReadyH.cons rfl (fun K hK => ?_) AllReadyH.nil)
  go_simp
  ((with_reducible refine KP.out.mono ?_); rintro e w5 ⟨rfl, X', d5, has5, pg5, rest5, cn5, c5⟩)
  have hqd : ¬ a.disk t d q := fun e => by have := hdl.out q e; have := HQ.out; omega
  have L5 := Lib.hid (show Lg w5 g h d t a X' N (C + 5) Bs num from L1.out.disk ⟨c5.os, c5.tape, c5.output, c5.size, c5.block⟩ d5)
  have HAS := Lib.hid has5
  have HPG := Lib.hid pg5
  have RST := Lib.hid rest5
  have HCN := Lib.hid cn5
  have CH5 := Lib.hid (show Chg w w5 (a.log t d g h) from ((Chg.of_below b1.out.drew).trans c5).more (fun _ _ q => Or.inl q))
  have P5 := Lib.hid (show PArr w5 q p from ⟨(c5.block _ P1.out.lt hqd).trans P1.out.1, P1.out.2⟩)
  have HQH := Lib.hid (show h < q by have := L1.out.hb.lt; have h2 := HQ.out; have : h < w.heap.size := hhl.out; omega)
  have S5 : w5.cell? ⟨g, 0, none⟩ = some (.pointer (some ⟨d, 0, none⟩)) ∧ PArr w5 q p := ⟨L5.out.cells.1, P5.out⟩
  refine hK.out _ _ S5 (fun _ => ?_)
  clear hK K d5 has5 rest5 c5 KP pg5 cn5
  refine wpAnyH_take (i := 8) (v := .int .i64 0) rfl (by kernel_rfl) (by kernel_rfl) (by kernel_rfl) (fun _ _ _ h => h) (Or.inl ⟨by kernel_rfl, fun w _ => by go_simp⟩) S5 ?_
  refine wpAnyH_done (by kernel_rfl) ?_ _
  obtain ⟨n2, hn2⟩ : ∃ n2, X'.S.cnt = n2 := ⟨_, rfl⟩
  obtain ⟨y0, y1, _⟩ := L5.out.cells
  rw [HM.out] at y1
  obtain ⟨yd, KC5⟩ := L5.out.dk.count
  rw [hn2] at KC5 HCN
  have dn : ((n2 : Int) != (n1 : Int)) = true := by have := HCN.out; simp; omega
  obtain ⟨_, _, _, _, y4⟩ := L5.out.cell HB.out
  have fr4 := L5.out.free (x * 5 + 4)
  obtain ⟨k1, hk1⟩ : ∃ k1, k + 1 = k1 := ⟨_, rfl⟩
  have e1 : (k : Int) + 1 = (k1 : Int) := by omega
  have hk1b : k1 ≤ 8 := by omega
  have HK1 := Lib.hid hk1
  have s1 := L5.out.set1 (j := 4) (v := .int .i64 (k1 : Int)) (b' := { b with next := k1 }) HB.out rfl (by omega)
  have S1 := Lib.hid s1
  obtain ⟨z0, _, _⟩ := s1.cells
  have KR := Lib.hid (s1.dk.read HX.out HK8.out)
  rw [HPG.out] at KR
  have C6 := Lib.hid (show Chg w (w5.setCell ⟨h, x * 5 + 4, none⟩ (.int .i64 (k1 : Int))) (a.log t d g h) from CH5.out.trans (Chg.of_grown (grown_setg _ _ _ _) (fun k e => by cases e; exact Or.inr (Or.inr rfl))))
  have P6 := Lib.hid (show PArr (w5.setCell ⟨h, x * 5 + 4, none⟩ (.int .i64 (k1 : Int))) q p from P5.out.grown (grown_setg _ _ _ _) (by simp; have := HQH.out; omega))
  clear s1 hn2 hk1
  have hEq := HEQ.out
  go_wp2_with (first
    | (go_at_call 49; ((with_reducible refine KC5.mono ?_); rintro e w' ⟨rfl, rfl⟩))
    | (go_at_call 52; ((with_reducible refine KR.out.mono ?_); rintro e w7 ⟨rfl, b7⟩; have B7 := Lib.hid b7; have N7 := PArr.new w7 pzeros_length; have P7 := (P6.out.after b7).alloc (.cells (cl pzeros) 92); have hq7 := Lib.hid (P6.out.after b7).lt; clear KR b7))
    | (with_reducible refine wpl_pstore (.tmp 12) (.tmp 65) rfl rfl N7 rfl HPL.out rfl ?_; intro w8 N8 g8 e8; have B8 := Lib.hid ((B7.out.alloc B7.out.size (.cells (cl pzeros) 92)).grown g8 (by rw [World.size_alloc]; have := B7.out.size; omega) (fun k e => by cases e; exact B7.out.size)); have P8 := P7.grown g8 (by have := hq7.out; omega); clear N7 P7 g8 e8)
    | (with_reducible refine wpl_pload (.tmp 12) rfl rfl N8 rfl ?_)
    | (with_reducible refine wpl_pload (.tmp 7) rfl rfl P8 rfl ?_))
  go_ret2
  exact ⟨rfl, X', by rw [HK1.out]; exact S1.out.after B8.out, HAS.out, RST.out, C6.out.trans (Chg.of_below B8.out)⟩
end
end Go.Proofs.YtdiocjneakfdgaaGreatDoor

/- A page is put behind a log's last record. Condition: the log is in order; few calls so far. -/
namespace Go.Proofs.YtdiocjneakfdgaaGreatDoor
open Go.RowKit
section
variable {w : World} {g h d t : Nat} {a : At} {X : DS} {N C : Nat} {Bs : List LB} {num : Nat} {os : List Nat}
theorem flat_set_same {b1 b2 : LB} (hb : brow b1 = brow b2) : ∀ (Bs : List LB) (x : Nat), (Bs.set x b1).flatMap brow = (Bs.set x b2).flatMap brow
  | [], _ => rfl
  | y :: L, 0 => by rw [List.set_cons_zero, List.set_cons_zero, List.flatMap_cons, List.flatMap_cons, hb]
  | y :: L, x + 1 => by rw [List.set_cons_succ, List.set_cons_succ, List.flatMap_cons, List.flatMap_cons, flat_set_same hb L x]
theorem Lg.same {x : Nat} {b1 b2 : LB} (l : Lg w g h d t a X N C (Bs.set x b1) num) (hb : brow b1 = brow b2) : Lg w g h d t a X N C (Bs.set x b2) num :=
  ⟨l.gb, by rw [← flat_set_same hb]; exact l.hb, l.dk, by rw [List.length_set]; have := l.len; rwa [List.length_set] at this, l.gh, l.gd, l.hd, l.gt, l.ht⟩
theorem Chg.new {w w' w2 : World} {T : Nat → Prop} {j : Nat} (h : Chg w w' T) (hg : w'.grownBy w2 (some j)) (hj : w.heap.size ≤ j) : Chg w w2 T :=
  ⟨hg.os.trans h.os, hg.tape.trans h.tape, hg.output.trans h.output, Nat.le_trans h.size hg.size, fun k hk hT => (hg.block k (Nat.lt_of_lt_of_le hk h.size) (fun e => by cases e; omega)).trans (h.block k hk hT)⟩
/-- where a record stands -/
def plc (x k : Nat) : List Value := [.int .i64 (x : Int), .int .i64 (k : Int)]
theorem aggPl : ∀ w, (isAgg 44).run Tryz.prog w = .ok true w := fun _ => by kernel_rfl
theorem sizePl : ∀ w, (sizeOf 44).run Tryz.prog w = .ok 2 w := fun _ => by kernel_rfl
theorem plc_one (x k : Nat) : ∀ v ∈ plc x k, v.oneCell' = true := by simp [plc, Value.oneCell']
theorem plret3 {fn : Func} {p u v : Tmp} {w : World} {q : Nat} {t : TypeId} {vs : List Value} (h : fn.results = #[.cell p 44, .tmp u, .tmp v]) (tmps : Array Value) (hB : Blk w q t vs) (hn : vs.length = 2) (hp : tmps.getD p undef = .pointer (some ⟨q, 0, none⟩)) :
    (results fn tmps).run Tryz.prog w = .ok (.tuple #[.agg vs.toArray, tmps.getD u undef, tmps.getD v undef]) w := by
  have hp' : tmps[p]?.getD undef = .pointer (some ⟨q, 0, none⟩) := by simpa using hp
  simp [results, h, hp', asAddr, seg_load aggPl sizePl hB (by rw [List.drop_zero, List.take_of_length_le (by omega)]) hn]
set_option maxRecDepth 100000 in
set_option maxHeartbeats 8000000 in
theorem put_none (l : Lg w g h d t a X N C Bs num) (o : LOk Bs os num) (hx : os.getLast? = none) (p : List UInt8) :
    Calls Tryz.prog 36 #[.pointer (some ⟨g, 0, none⟩), .agg (cl p)] w fun e w' => e = .returned (.tuple #[.agg (plc 0 0).toArray, .bool false, .int .i64 0]) ∧ Below w.heap.size w w' := by
  have b1 := Lib.hid (((Below.refl w.heap.size w).alloc (Nat.le_refl _) (.cells (cl p) 92)).alloc (by simp) (.cells #[.int .i64 0, .int .i64 0] 44))
  have KL := Lib.hid (last_any (l.after b1.out) o.ord)
  have R1 := Lib.hid (show Blk ((w.alloc (.cells (cl p) 92)).alloc (.cells #[.int .i64 0, .int .i64 0] 44)) (w.heap.size + 1) 44 (plc 0 0) by
    have := Blk.new (w.alloc (.cells (cl p) 92)) 44 (plc 0 0)
    rw [World.size_alloc] at this
    exact this)
  rw [hx] at KL
  simp only [Option.getD_none, Option.isSome_none] at KL
  clear l o hx
  go_enter Tryz.func36, Tryz.ntmps36
  go_wp2_with (first
    | (go_at_call 38; ((with_reducible refine KL.out.mono ?_); rintro e w2 ⟨rfl, b2⟩; have B2 := Lib.hid (b1.out.trans (b2.mono b1.out.size)); have R2 := R1.out.after b2; have hz := Lib.hid (show w.heap.size ≤ w2.heap.size from B2.out.size); clear b2 KL))
    | (with_reducible refine wpl_seg_store sizePl (.tmp 4) (.tmp 19) rfl rfl R2 0 (plc 0 0) rfl (Nat.le_refl _) (plc_one 0 0) rfl rfl _ rfl ?_; intro w3 R3 g3 e3))
  refine bodyPost_ret (plret3 rfl _ R3 rfl rfl) rfl ?_
  exact ⟨rfl, B2.out.grown g3 B2.out.size (fun k e => by cases e; omega)⟩
set_option maxRecDepth 100000 in
set_option maxHeartbeats 8000000 in
theorem put_full (l : Lg w g h d t a X N C Bs num) (o : LOk Bs os num) {x : Nat} (hx : os.getLast? = some x) {b : LB} (hb : Bs[x]? = some b) (h8 : b.next = 8) (p : List UInt8) :
    Calls Tryz.prog 36 #[.pointer (some ⟨g, 0, none⟩), .agg (cl p)] w fun e w' => e = .returned (.tuple #[.agg (plc 0 0).toArray, .bool false, .int .i64 0]) ∧ Below w.heap.size w w' := by
  have b1 := Lib.hid (((Below.refl w.heap.size w).alloc (Nat.le_refl _) (.cells (cl p) 92)).alloc (by simp) (.cells #[.int .i64 0, .int .i64 0] 44))
  have KL := Lib.hid (last_any (l.after b1.out) o.ord)
  have L1 := Lib.hid (l.after b1.out)
  have R1 := Lib.hid (show Blk ((w.alloc (.cells (cl p) 92)).alloc (.cells #[.int .i64 0, .int .i64 0] 44)) (w.heap.size + 1) 44 (plc 0 0) by
    have := Blk.new (w.alloc (.cells (cl p) 92)) 44 (plc 0 0)
    rw [World.size_alloc] at this
    exact this)
  have HB := Lib.hid hb
  have hxl : x < N - 6 := by have := get_lt hb; rw [l.len] at this; exact this
  rw [hx] at KL
  simp only [Option.getD_some, Option.isSome_some] at KL
  have hn := l.n
  obtain ⟨M, hM⟩ : ∃ M, N - 6 = M := ⟨_, rfl⟩
  have hM40 : M ≤ 40 := by omega
  have HM := Lib.hid hM
  have H8 := Lib.hid h8
  rw [hM] at hxl
  clear l o hx hb hM hn h8
  go_enter Tryz.func36, Tryz.ntmps36
  go_wp2_with (go_at_call 38; ((with_reducible refine KL.out.mono ?_); rintro e w2 ⟨rfl, b2⟩; have B2 := Lib.hid (b1.out.trans (b2.mono b1.out.size)); have R2 := Lib.hid (R1.out.after b2); obtain ⟨q0, q1, q2⟩ := (L1.out.after b2).cells; obtain ⟨k0, k1, k2, k3, k4⟩ := (L1.out.after b2).cell HB.out; rw [HM.out] at q1; rw [H8.out] at k4; clear b2 KL q0 q2 k0 k1 k2 k3))
  go_loopw [5, 6, 9, 10, 11] (fun _ _ v9 _ _ wr => v9 = .int .i64 8 ∧ Hid (wr = w2)) (fun _ _ _ _ _ _ => 0)
  case atStart => exact ⟨rfl, Lib.hid rfl⟩
  case round =>
    obtain ⟨rfl, HE⟩ := hrel
    have R3' : Blk wr (w.heap.size + 1) 44 (plc 0 0) := by rw [HE.out]; exact R2.out
    have B3 := Lib.hid (show Below w.heap.size w wr by rw [HE.out]; exact B2.out)
    clear HE
    go_wp2_with (with_reducible refine wpl_seg_store sizePl (.tmp 4) (.tmp 48) rfl rfl R3' 0 (plc 0 0) rfl (Nat.le_refl _) (plc_one 0 0) rfl rfl _ rfl ?_; intro w3 R3 g3 e3)
    refine bodyPost_ret (plret3 rfl _ R3 rfl rfl) rfl ?_
    exact ⟨rfl, B3.out.grown g3 B3.out.size (fun k e => by cases e; omega)⟩
set_option maxRecDepth 100000 in
set_option maxHeartbeats 8000000 in
theorem put_some (l : Lg w g h d t a X N C Bs num) (o : LOk Bs os num) {x : Nat} (hx : os.getLast? = some x) {b : LB} (hb : Bs[x]? = some b) (h8 : b.next < 8) (hH : HasN (X.blk x) b.pages) (hC4 : C ≤ 4000) {r : LRec} (hr : recOk r) :
    Calls Tryz.prog 36 #[.pointer (some ⟨g, 0, none⟩), .agg (cl (recP r))] w fun e w' => e = .returned (.tuple #[.agg (plc x b.next).toArray, .bool true, .int .i64 0]) ∧ ∃ X', Wrote w w' g h d t a X X' N (C + 5) (Bs.set x (b.put r)) num x (b.put r).pages := by
  obtain ⟨b', hb', hs⟩ := last_some o hx
  obtain rfl : b = b' := by rw [hb] at hb'; exact Option.some.inj hb'
  have hok := o.ok b (get_mem hb)
  have hlen : b.pages.length = b.next := by
    rw [pages_len_seg hs]
    rcases hok.len hs with q | q <;> omega
  have hn2 := (o.next_le hb hs).1
  obtain ⟨p, hp⟩ : ∃ p, recP r = p := ⟨_, rfl⟩
  have hpr := recP_rec hr
  rw [hp] at hpr ⊢
  have b1 := Lib.hid (((Below.refl w.heap.size w).alloc (Nat.le_refl _) (.cells (cl p) 92)).alloc (by simp) (.cells #[.int .i64 0, .int .i64 0] 44))
  have KL := Lib.hid (last_any (l.after b1.out) o.ord)
  have L1 := Lib.hid (l.after b1.out)
  have P1 := Lib.hid ((PArr.new w hpr.length).alloc (.cells #[.int .i64 0, .int .i64 0] 44))
  have R1 := Lib.hid (show Blk ((w.alloc (.cells (cl p) 92)).alloc (.cells #[.int .i64 0, .int .i64 0] 44)) (w.heap.size + 1) 44 (plc 0 0) by
    have := Blk.new (w.alloc (.cells (cl p) 92)) 44 (plc 0 0)
    rw [World.size_alloc] at this
    exact this)
  have HB := Lib.hid hb
  have hxl : x < N - 6 := by have := get_lt hb; rw [l.len] at this; exact this
  have HT := Lib.hid (fun (w' : World) (hl : Lg w' g h d t a X N C Bs num) => try_any hl hb hH hlen h8 hok.isRec hC4 hpr)
  have HF := Lib.hid (fun (w' w6 : World) (X' : DS) (W : Wrote w' w6 g h d t a X X' N (C + 5) (Bs.set x { b with next := b.next + 1 }) num x (b.pages ++ [p])) => show Wrote w' w6 g h d t a X X' N (C + 5) (Bs.set x (b.put r)) num x (b.put r).pages from ⟨W.lg.same rfl, by rw [LB.put_pages hs, hp]; exact W.has, W.rest, W.chg⟩)
  have HLT := Lib.hid (fun k hk => l.lt k hk)
  have HTB := Lib.hid l.dk.tab.lt
  rw [hx] at KL
  simp only [Option.getD_some, Option.isSome_some] at KL
  have hn := l.n
  obtain ⟨k, hk⟩ : ∃ k, b.next = k := ⟨_, rfl⟩
  have HK := Lib.hid hk
  rw [hk] at HT HF h8 hn2 ⊢
  obtain ⟨M, hM⟩ : ∃ M, N - 6 = M := ⟨_, rfl⟩
  have hM40 : M ≤ 40 := by omega
  have HM := Lib.hid hM
  rw [hM] at hxl
  clear l o hx hb hb' hM hn hH hok hlen hs hp hpr hr hk
  go_enter Tryz.func36, Tryz.ntmps36
  go_wp2_with (go_at_call 38; ((with_reducible refine KL.out.mono ?_); rintro e w2 ⟨rfl, b2⟩; have B2 := Lib.hid (b1.out.trans (b2.mono b1.out.size)); have L2 := Lib.hid (L1.out.after b2); have R2 := Lib.hid (R1.out.after b2); have P2 := Lib.hid (P1.out.after b2); obtain ⟨q0, q1, q2⟩ := (L1.out.after b2).cells; obtain ⟨k0, k1, k2, k3, k4⟩ := (L1.out.after b2).cell HB.out; rw [HM.out] at q1; rw [HK.out] at k4; clear b2 KL q0 q2 k0 k1 k2 k3))
  obtain ⟨q, hq⟩ : ∃ q, w.heap.size = q := ⟨_, rfl⟩
  have HQ := Lib.hid hq
  rw [hq] at R2 P2 ⊢
  clear R1 P1 L1 hq
  go_loopw [5, 6, 9, 10, 11] (fun _ _ v9 _ _ wr => v9 = .int .i64 (k : Int) ∧ Hid (wr = w2)) (fun _ _ _ _ _ _ => 0)
  case atStart => exact ⟨rfl, Lib.hid rfl⟩
  case round =>
    obtain ⟨rfl, HE⟩ := hrel
    have hE := HE.out
    subst hE
    have P3 := P2.out
    have KT := Lib.hid (HT.out wr L2.out)
    clear HE HT
    go_wp2_with (first
      | (with_reducible refine wpl_pload (.tmp 3) rfl rfl P3 rfl ?_)
      | (go_at_call 61; ((with_reducible refine KT.out.mono ?_); rintro e w5 ⟨rfl, X', W⟩; have R5 := R2.out.chg W.chg (fun e => by have := HLT.out _ e; have := HQ.out; omega); have W5 := Lib.hid (HF.out _ _ _ W); clear W KT))
      | (with_reducible refine wpl_seg_store sizePl (.tmp 4) (.tmp 47) rfl rfl R5 0 (plc x k) rfl (Nat.le_refl _) (plc_one x k) rfl rfl _ rfl ?_; intro w6 R6 g6 e6))
    refine bodyPost_ret (plret3 rfl _ R6 rfl rfl) rfl ?_
    refine ⟨rfl, X', ?_⟩
    have hz := HQ.out
    have CG : Chg w5 w6 (fun j => j = q + 1) := Chg.of_grown g6 (fun k e => by cases e; rfl)
    have hq5 : q < w5.heap.size := Nat.lt_of_lt_of_le P2.out.lt W5.out.chg.size
    exact ⟨W5.out.lg.chg CG (fun j hj e => by
        rcases hj with hj | hj
        · have := HLT.out j hj; omega
        · have := HTB.out; omega), W5.out.has, W5.out.rest, ((Chg.of_below B2.out).trans W5.out.chg).new g6 (by omega)⟩
end
end Go.Proofs.YtdiocjneakfdgaaGreatDoor

/- A log's Append. Condition: the log is in order, its free blocks are clear; few calls so far. -/
namespace Go.Proofs.YtdiocjneakfdgaaGreatDoor
open Go.RowKit
/-- a log in order, in memory and on its disk -/
structure LogS (w : World) (g h d t : Nat) (a : At) (X : DS) (N C : Nat) (Bs : List LB) (os : List Nat) (num : Nat) : Prop where
  lg : Lg w g h d t a X N C Bs num
  o : LOk Bs os num
  has : LHas X Bs
  clr : Clr Bs
section
variable {w w' : World} {g h d t : Nat} {a : At} {X X' : DS} {N C : Nat} {Bs : List LB} {num : Nat} {os : List Nat} {r : LRec} {x : Nat} {b : LB}
theorem LogS.after (l : LogS w g h d t a X N C Bs os num) (hb : Below w.heap.size w w') : LogS w' g h d t a X N C Bs os num := ⟨l.lg.after hb, l.o, l.has, l.clr⟩
theorem LogS.more {C' : Nat} (l : LogS w g h d t a X N C Bs os num) (hC : C ≤ C') : LogS w g h d t a X N C' Bs os num := ⟨l.lg.more hC, l.o, l.has, l.clr⟩
theorem LogS.put (l : LogS w g h d t a X N C Bs os num) (hb : Bs[x]? = some b) (hs : b.seg = true) (h8 : b.next < 8) (hr : recOk r) {C' : Nat} (W : Wrote w w' g h d t a X X' N C' (Bs.set x (b.put r)) num x (b.put r).pages) : LogS w' g h d t a X' N C' (Bs.set x (b.put r)) os num :=
  ⟨W.lg, l.o.put hb hs h8 hr, l.has.set (get_lt hb) W.has (fun y hy hyx => W.rest y (by rw [l.lg.len] at hy; exact hy) hyx), l.clr.set (fun q => by rw [show (b.put r).seg = b.seg from rfl, hs] at q; cases q)⟩
theorem LogS.begin_ (l : LogS w g h d t a X N C Bs os num) (hb : Bs[x]? = some b) (hf : b.seg = false) (hn : num + 1 < 18446744073709551616) {C' : Nat} (W : Wrote w w' g h d t a X X' N C' (Bs.set x (b.begin_ (num + 1))) (num + 1) x (b.begin_ (num + 1)).pages) : LogS w' g h d t a X' N C' (Bs.set x (b.begin_ (num + 1))) (os ++ [x]) (num + 1) :=
  ⟨W.lg, l.o.begin_ hb hf hn, l.has.set (get_lt hb) W.has (fun y hy hyx => W.rest y (by rw [l.lg.len] at hy; exact hy) hyx), l.clr.set (fun q => by cases q)⟩
theorem rec_write {kind : UInt8} {body : List UInt8} (hr : recOk (kind, body)) : (FM.writeM kind body).1 = recP (kind, body) ∧ (FM.writeM kind body).2 = 0 := by
  unfold FM.writeM recP
  rw [if_neg (by rintro (q | q | q); exact hr.1.1 q; exact hr.1.2.1 q; have : body.length ≤ 240 := hr.2; omega)]
  exact ⟨rfl, rfl⟩
theorem holds_any (k : UInt8) (w : World) : Calls Tryz.prog 34 #[.int .u8 ((k.toNat : Nat) : Int)] w fun e w' => e = .returned (.bool (decide (k ≠ 1 ∧ k ≠ 2 ∧ k ≠ 3))) ∧ w = w' := by
  have hk : ∀ m : UInt8, (((k.toNat : Nat) : Int) != ((m.toNat : Nat) : Int)) = decide (k ≠ m) := fun m => by
    by_cases e : k = m
    · subst e; simp
    · rw [decide_eq_true e]
      simp only [bne_iff_ne, ne_eq, Int.ofNat_inj]
      exact fun q => e (UInt8.toNat_inj.1 (by omega))
  have h1 := hk 1
  have h2 := hk 2
  have h3 := hk 3
  rw [show (((1 : UInt8).toNat : Nat) : Int) = 1 from rfl] at h1
  rw [show (((2 : UInt8).toNat : Nat) : Int) = 2 from rfl] at h2
  rw [show (((3 : UInt8).toNat : Nat) : Int) = 3 from rfl] at h3
  have HR : decide (k ≠ 1 ∧ k ≠ 2 ∧ k ≠ 3) = (decide (k ≠ 1) && (decide (k ≠ 2) && decide (k ≠ 3))) := by
    rw [Bool.eq_iff_iff]; simp
  rw [HR]
  obtain ⟨b1, e1⟩ : ∃ b1, decide (k ≠ 1) = b1 := ⟨_, rfl⟩
  obtain ⟨b2, e2⟩ : ∃ b2, decide (k ≠ 2) = b2 := ⟨_, rfl⟩
  obtain ⟨b3, e3⟩ : ∃ b3, decide (k ≠ 3) = b3 := ⟨_, rfl⟩
  rw [e1] at h1 ⊢
  rw [e2] at h2 ⊢
  rw [e3] at h3 ⊢
  clear hk HR e1 e2 e3
  cases b1 <;> cases b2 <;> cases b3 <;> (
    go_enter Tryz.func34, Tryz.ntmps34
    go_wp2
    go_ret
    exact ⟨rfl, rfl⟩)
end
end Go.Proofs.YtdiocjneakfdgaaGreatDoor

/- A log's Append, where the last segment has room, or no block is free. Condition: the log is in order, its free blocks are clear; few calls so far. -/
namespace Go.Proofs.YtdiocjneakfdgaaGreatDoor
open Go.RowKit
section
variable {w : World} {g h d t : Nat} {a : At} {X : DS} {N C : Nat} {Bs : List LB} {num : Nat} {os : List Nat}
theorem plret2 {fn : Func} {p u : Tmp} {w : World} {q : Nat} {t : TypeId} {vs : List Value} (h : fn.results = #[.cell p 44, .tmp u]) (tmps : Array Value) (hB : Blk w q t vs) (hn : vs.length = 2) (hp : tmps.getD p undef = .pointer (some ⟨q, 0, none⟩)) :
    (results fn tmps).run Tryz.prog w = .ok (.tuple #[.agg vs.toArray, tmps.getD u undef]) w := by
  have hp' : tmps[p]?.getD undef = .pointer (some ⟨q, 0, none⟩) := by simpa using hp
  simp [results, h, hp', asAddr, seg_load aggPl sizePl hB (by rw [List.drop_zero, List.take_of_length_le (by omega)]) hn]
theorem Chg.less {w w' w2 : World} {T U : Nat → Prop} (h : Chg w w' T) (k : Chg w' w2 U) (hU : ∀ j, U j → w.heap.size ≤ j) : Chg w w2 T :=
  ⟨k.os.trans h.os, k.tape.trans h.tape, k.output.trans h.output, Nat.le_trans h.size k.size, fun j hj hT => (k.block j (Nat.lt_of_lt_of_le hj h.size) (fun e => by have := hU j e; omega)).trans (h.block j hj hT)⟩
set_option maxRecDepth 100000 in
set_option maxHeartbeats 8000000 in
theorem append_in (l : LogS w g h d t a X N C Bs os num) {x : Nat} {b : LB} (hx : os.getLast? = some x) (hb : Bs[x]? = some b) (h8 : b.next < 8) (hC4 : C ≤ 3900) (kind : UInt8) (v : Value) (L : List (List UInt8)) (B : Nat) (hB : B ≤ w.heap.size) (hv : Parts w B v L) (hr : recOk (kind, L.flatten)) :
    Calls Tryz.prog 16 #[.pointer (some ⟨g, 0, none⟩), .int .u8 ((kind.toNat : Nat) : Int), v] w fun e w' => e = .returned (.tuple #[.agg (plc x b.next).toArray, .int .i64 0]) ∧ ∃ X', LogS w' g h d t a X' N (C + 5) (Bs.set x (b.put (kind, L.flatten))) os num ∧ Chg w w' (a.log t d g h) := by
  have z := zeroPage
  have HL := Lib.hid l
  have b1 := Lib.hid ((Below.refl w.heap.size w).alloc (Nat.le_refl _) (.cells #[.int .i64 0, .int .i64 0] 44))
  have R1 := Lib.hid (show Blk (w.alloc (.cells #[.int .i64 0, .int .i64 0] 44)) w.heap.size 44 (plc 0 0) from Blk.new w 44 (plc 0 0))
  have KH := Lib.hid (holds_any kind (w.alloc (.cells #[.int .i64 0, .int .i64 0] 44)))
  rw [decide_eq_true (show kind ≠ 1 ∧ kind ≠ 2 ∧ kind ≠ 3 from ⟨hr.1.2.2.1, hr.1.2.2.2.1, hr.1.2.2.2.2⟩)] at KH
  have KW := Lib.hid (write_any kind v L _ B (by rw [World.size_alloc]; omega) (hv.alloc hB _) (l.lg.dk.tab.below b1.out l.lg.dk.tab.lt) (by have : L.flatten.length ≤ 240 := hr.2; omega))
  rw [(rec_write hr).1, (rec_write hr).2] at KW
  have HPL := Lib.hid (recP_rec hr).length
  have HLT := Lib.hid (fun k hk => l.lg.lt k hk)
  have HTB := Lib.hid l.lg.dk.tab.lt
  have KP := Lib.hid (fun (w' : World) (hl : LogS w' g h d t a X N C Bs os num) => put_some hl.lg hl.o hx hb h8 (hl.has x b hb) (by omega) hr)
  have HPUT := Lib.hid (fun (w' w2 : World) (X' : DS) (hl : LogS w' g h d t a X N C Bs os num) (W : Wrote w' w2 g h d t a X X' N (C + 5) (Bs.set x (b.put (kind, L.flatten))) num x (b.put (kind, L.flatten)).pages) => hl.put hb (by obtain ⟨b', hb', hs⟩ := last_some l.o hx; rw [hb] at hb'; cases hb'; exact hs) h8 hr W)
  obtain ⟨k, hk⟩ : ∃ k, b.next = k := ⟨_, rfl⟩
  rw [hk] at KP ⊢
  obtain ⟨p, hp⟩ : ∃ p, recP (kind, L.flatten) = p := ⟨_, rfl⟩
  rw [hp] at KW HPL KP
  clear l hv hr hp hB hx hb h8 hk hC4
  go_enter Tryz.func16, Tryz.ntmps16
  go_wp2_with (first
    | (go_at_call 34; ((with_reducible refine KH.out.mono ?_); rintro e w' ⟨rfl, rfl⟩; clear KH))
    | (go_at_call 35; ((with_reducible refine KW.out.mono ?_); rintro e w1 ⟨rfl, c1⟩; have B1 := Lib.hid (b1.out.trans (c1.mono b1.out.size)); have R2 := (R1.out.after c1).alloc (.cells (cl pzeros) 92); have N1 := PArr.new w1 pzeros_length; have hs1 := Lib.hid (R1.out.after c1).lt; clear KW c1))
    | (with_reducible refine wpl_pstore (.tmp 8) (.tmp 22) rfl rfl N1 rfl HPL.out rfl ?_; intro w2 P2 g2 e2; have B2 := Lib.hid ((B1.out.alloc B1.out.size (.cells (cl pzeros) 92)).grown g2 (by rw [World.size_alloc]; have := B1.out.size; omega) (fun k e => by cases e; exact B1.out.size)); have R3 := Lib.hid (R2.grown g2 (by simp; have := hs1.out; omega)); have Q2 := Lib.hid P2; clear N1 R2 g2 e2 P2))
  obtain ⟨q, hq⟩ : ∃ q, w1.heap.size = q := ⟨_, rfl⟩
  have HQ := Lib.hid (show w.heap.size < q by rw [← hq]; exact hs1.out)
  obtain ⟨s, hs⟩ : ∃ s, w.heap.size = s := ⟨_, rfl⟩
  have HS := Lib.hid hs
  rw [hs] at R3 ⊢
  rw [hq] at Q2 ⊢
  have L2 := Lib.hid (HL.out.after B2.out)
  clear hq hs R1 HL hs1
  go_loopw [7, 10, 11, 12, 13] (fun _ _ _ _ _ wr => Hid (wr = w2)) (fun _ _ _ _ _ _ => 0)
  case atStart => exact Lib.hid rfl
  case round =>
    have hE := hrel.out
    subst hE
    have P3 := Q2.out
    have KT := Lib.hid (KP.out wr L2.out)
    clear hrel KP
    go_wp2_with (first
      | (with_reducible refine wpl_pload (.tmp 8) rfl rfl P3 rfl ?_)
      | (go_at_call 36; ((with_reducible refine KT.out.mono ?_); rintro e w5 ⟨rfl, X', W⟩; have W5 := Lib.hid W; have N5 := (show Blk (w5.alloc (.cells #[.int .i64 0, .int .i64 0] 44)) w5.heap.size 44 (plc 0 0) from Blk.new w5 44 (plc 0 0)); have R5 := ((R3.out).chg W.chg (fun e => by have := HLT.out _ e; have := HS.out; omega)).alloc (.cells #[.int .i64 0, .int .i64 0] 44); have h5 := Lib.hid ((R3.out).chg W.chg (fun e => by have := HLT.out _ e; have := HS.out; omega)).lt; clear W KT))
      | (with_reducible refine wpl_seg_store sizePl (.tmp 10) (.tmp 32) rfl rfl N5 0 (plc x k) rfl (Nat.le_refl _) (plc_one x k) rfl rfl _ rfl ?_; intro w6 N6 g6 e6; have R6 := R5.grown g6 (by simp; have := h5.out; omega); have C6 := Lib.hid ((Chg.of_grown (S := fun j => j = w5.heap.size) (w := w5) (r := some w5.heap.size) ⟨g6.os, g6.tape, g6.output, Nat.le_trans (by simp) g6.size, fun j hj hn => (g6.block j (by rw [World.size_alloc]; omega) hn).trans (Below.heap_alloc w5 _ j hj)⟩ (fun k e => by cases e; rfl))); clear N5 R5 g6 e6)
      | (with_reducible refine wpl_seg_load aggPl sizePl (.tmp 10) rfl rfl N6 0 (plc x k) rfl rfl rfl ?_)
      | (with_reducible refine wpl_seg_store sizePl (.tmp 6) (.tmp 40) rfl rfl R6 0 (plc x k) rfl (Nat.le_refl _) (plc_one x k) rfl rfl _ rfl ?_; intro w7 R7 g7 e7))
    refine bodyPost_ret (plret2 rfl _ R7 rfl rfl) rfl ?_
    have hz := HS.out
    have hz2 := W5.out.chg.size
    have hz3 := h5.out
    have C7 : Chg w5 w7 (fun j => j = w5.heap.size ∨ j = s) := (C6.out.more (fun _ _ e => Or.inl e)).trans (Chg.of_grown g7 (fun k e => by cases e; exact Or.inr rfl))
    have W7 := W5.out.lg.chg C7 (fun j hj e => by
      rcases hj with hj | hj
      · have := HLT.out j hj; omega
      · have := HTB.out; omega)
    have HS7 := HPUT.out _ _ _ L2.out W5.out
    exact ⟨rfl, X', ⟨W7, HS7.o, HS7.has, HS7.clr⟩, ((Chg.of_below B2.out).trans W5.out.chg).less C7 (fun j e => by rcases e with rfl | rfl; have := B2.out.size; omega; omega)⟩
set_option maxRecDepth 100000 in
set_option maxHeartbeats 8000000 in
theorem append_no (l : LogS w g h d t a X N C Bs os num) (hfull : ∀ (w' : World), Lg w' g h d t a X N C Bs num → LOk Bs os num → ∀ p, Calls Tryz.prog 36 #[.pointer (some ⟨g, 0, none⟩), .agg (cl p)] w' fun e w2 => e = .returned (.tuple #[.agg (plc 0 0).toArray, .bool false, .int .i64 0]) ∧ Below w'.heap.size w' w2) (hno : leastTo Bs (N - 6) = none) (kind : UInt8) (v : Value) (L : List (List UInt8)) (B : Nat) (hB : B ≤ w.heap.size) (hv : Parts w B v L) (hr : recOk (kind, L.flatten)) :
    Calls Tryz.prog 16 #[.pointer (some ⟨g, 0, none⟩), .int .u8 ((kind.toNat : Nat) : Int), v] w fun e w' => e = .returned (.tuple #[.agg (plc 0 0).toArray, .int .i64 40]) ∧ Below w.heap.size w w' := by
  have z := zeroPage
  have HL := Lib.hid l
  have b1 := Lib.hid ((Below.refl w.heap.size w).alloc (Nat.le_refl _) (.cells #[.int .i64 0, .int .i64 0] 44))
  have R1 := Lib.hid (show Blk (w.alloc (.cells #[.int .i64 0, .int .i64 0] 44)) w.heap.size 44 (plc 0 0) from Blk.new w 44 (plc 0 0))
  have KH := Lib.hid (holds_any kind (w.alloc (.cells #[.int .i64 0, .int .i64 0] 44)))
  rw [decide_eq_true (show kind ≠ 1 ∧ kind ≠ 2 ∧ kind ≠ 3 from ⟨hr.1.2.2.1, hr.1.2.2.2.1, hr.1.2.2.2.2⟩)] at KH
  have KW := Lib.hid (write_any kind v L _ B (by rw [World.size_alloc]; omega) (hv.alloc hB _) (l.lg.dk.tab.below b1.out l.lg.dk.tab.lt) (by have : L.flatten.length ≤ 240 := hr.2; omega))
  rw [(rec_write hr).1, (rec_write hr).2] at KW
  have HPL := Lib.hid (recP_rec hr).length
  have HLT := Lib.hid (fun k hk => l.lg.lt k hk)
  have HTB := Lib.hid l.lg.dk.tab.lt
  have KP := Lib.hid (fun (w' : World) (hl : LogS w' g h d t a X N C Bs os num) => show Calls Tryz.prog 36 #[.pointer (some ⟨g, 0, none⟩), .agg (cl (recP (kind, L.flatten)))] w' _ from hfull w' hl.lg hl.o (recP (kind, L.flatten)))
  have KB := Lib.hid (fun (w' : World) (hl : LogS w' g h d t a X N C Bs os num) => begin_none hl.lg hno)
  obtain ⟨p, hp⟩ : ∃ p, recP (kind, L.flatten) = p := ⟨_, rfl⟩
  rw [hp] at KW HPL KP
  clear l hv hr hp hB hfull hno
  go_enter Tryz.func16, Tryz.ntmps16
  go_wp2_with (first
    | (go_at_call 34; ((with_reducible refine KH.out.mono ?_); rintro e w' ⟨rfl, rfl⟩; clear KH))
    | (go_at_call 35; ((with_reducible refine KW.out.mono ?_); rintro e w1 ⟨rfl, c1⟩; have B1 := Lib.hid (b1.out.trans (c1.mono b1.out.size)); have R2 := (R1.out.after c1).alloc (.cells (cl pzeros) 92); have N1 := PArr.new w1 pzeros_length; have hs1 := Lib.hid (R1.out.after c1).lt; clear KW c1))
    | (with_reducible refine wpl_pstore (.tmp 8) (.tmp 22) rfl rfl N1 rfl HPL.out rfl ?_; intro w2 P2 g2 e2; have B2 := Lib.hid ((B1.out.alloc B1.out.size (.cells (cl pzeros) 92)).grown g2 (by rw [World.size_alloc]; have := B1.out.size; omega) (fun k e => by cases e; exact B1.out.size)); have R3 := Lib.hid (R2.grown g2 (by simp; have := hs1.out; omega)); have Q2 := Lib.hid P2; clear N1 R2 g2 e2 P2))
  obtain ⟨q, hq⟩ : ∃ q, w1.heap.size = q := ⟨_, rfl⟩
  have HQ := Lib.hid (show w.heap.size < q by rw [← hq]; exact hs1.out)
  obtain ⟨s, hs⟩ : ∃ s, w.heap.size = s := ⟨_, rfl⟩
  have HS := Lib.hid hs
  rw [hs] at R3 ⊢
  rw [hq] at Q2 ⊢
  have L2 := Lib.hid (HL.out.after B2.out)
  clear hq hs R1 HL hs1
  go_loopw [7, 10, 11, 12, 13] (fun _ _ _ _ _ wr => Hid (wr = w2)) (fun _ _ _ _ _ _ => 0)
  case atStart => exact Lib.hid rfl
  case round =>
    have hE := hrel.out
    subst hE
    have P3 := Q2.out
    have KT := Lib.hid (KP.out wr L2.out)
    clear hrel KP
    go_wp2_with (first
      | (with_reducible refine wpl_pload (.tmp 8) rfl rfl P3 rfl ?_)
      | (go_at_call 36; ((with_reducible refine KT.out.mono ?_); rintro e w5 ⟨rfl, c5⟩; have B5 := Lib.hid (B2.out.trans (c5.mono B2.out.size)); have N5 := (show Blk (w5.alloc (.cells #[.int .i64 0, .int .i64 0] 44)) w5.heap.size 44 (plc 0 0) from Blk.new w5 44 (plc 0 0)); have R5 := (R3.out.after c5).alloc (.cells #[.int .i64 0, .int .i64 0] 44); have h5 := Lib.hid (R3.out.after c5).lt; have L5 := Lib.hid (L2.out.after c5); clear KT c5))
      | (with_reducible refine wpl_seg_store sizePl (.tmp 10) (.tmp 32) rfl rfl N5 0 (plc 0 0) rfl (Nat.le_refl _) (plc_one 0 0) rfl rfl _ rfl ?_; intro w6 N6 g6 e6; have R6 := R5.grown g6 (by simp; have := h5.out; omega); have C6 := Lib.hid (((Below.refl w5.heap.size w5).alloc (Nat.le_refl _) (.cells #[.int .i64 0, .int .i64 0] 44)).grown g6 (by simp) (fun k e => by cases e; exact Nat.le_refl _)); have K6 := Lib.hid (KB.out w6 (L5.out.after C6.out)); clear N5 R5 g6 e6)
      | (go_at_call 37; ((with_reducible refine K6.out.mono ?_); rintro e w7 ⟨rfl, c7⟩; have R7 := R6.after c7; have B7 := Lib.hid ((B5.out.trans (C6.out.mono B5.out.size)).trans (c7.mono (Nat.le_trans B5.out.size C6.out.size))); clear K6 c7 R6))
      | (with_reducible refine wpl_seg_store sizePl (.tmp 6) (.tmp 46) rfl rfl R7 0 (plc 0 0) rfl (Nat.le_refl _) (plc_one 0 0) rfl rfl _ rfl ?_; intro w8 R8 g8 e8))
    refine bodyPost_ret (plret2 rfl _ R8 rfl rfl) rfl ?_
    exact ⟨rfl, B7.out.grown g8 B7.out.size (fun k e => by cases e; rw [HS.out]; exact Nat.le_refl _)⟩
end
end Go.Proofs.YtdiocjneakfdgaaGreatDoor

/- A log's Append, where a segment is begun. Condition: the log is in order, its free blocks are clear; few calls so far. -/
namespace Go.Proofs.YtdiocjneakfdgaaGreatDoor
open Go.RowKit
section
variable {w : World} {g h d t : Nat} {a : At} {X : DS} {N C : Nat} {Bs : List LB} {num : Nat} {os : List Nat}
set_option maxRecDepth 100000 in
set_option maxHeartbeats 8000000 in
theorem append_new (l : LogS w g h d t a X N C Bs os num) (hfull : ∀ (w' : World), Lg w' g h d t a X N C Bs num → LOk Bs os num → ∀ p, Calls Tryz.prog 36 #[.pointer (some ⟨g, 0, none⟩), .agg (cl p)] w' fun e w2 => e = .returned (.tuple #[.agg (plc 0 0).toArray, .bool false, .int .i64 0]) ∧ Below w'.heap.size w' w2) {x : Nat} {b : LB} (hno : leastTo Bs (N - 6) = some x) (hb : Bs[x]? = some b) (hnum : num < 1000000) (hC4 : C ≤ 3900) (kind : UInt8) (v : Value) (L : List (List UInt8)) (B : Nat) (hB : B ≤ w.heap.size) (hv : Parts w B v L) (hr : recOk (kind, L.flatten)) :
    Calls Tryz.prog 16 #[.pointer (some ⟨g, 0, none⟩), .int .u8 ((kind.toNat : Nat) : Int), v] w fun e w' => e = .returned (.tuple #[.agg (plc x 2).toArray, .int .i64 0]) ∧ ∃ X', LogS w' g h d t a X' N (C + 10) ((Bs.set x (b.begin_ (num + 1))).set x ((b.begin_ (num + 1)).put (kind, L.flatten))) (os ++ [x]) (num + 1) ∧ Chg w w' (a.log t d g h) := by
  have z := zeroPage
  have HL := Lib.hid l
  have b1 := Lib.hid ((Below.refl w.heap.size w).alloc (Nat.le_refl _) (.cells #[.int .i64 0, .int .i64 0] 44))
  have R1 := Lib.hid (show Blk (w.alloc (.cells #[.int .i64 0, .int .i64 0] 44)) w.heap.size 44 (plc 0 0) from Blk.new w 44 (plc 0 0))
  have KH := Lib.hid (holds_any kind (w.alloc (.cells #[.int .i64 0, .int .i64 0] 44)))
  rw [decide_eq_true (show kind ≠ 1 ∧ kind ≠ 2 ∧ kind ≠ 3 from ⟨hr.1.2.2.1, hr.1.2.2.2.1, hr.1.2.2.2.2⟩)] at KH
  have KW := Lib.hid (write_any kind v L _ B (by rw [World.size_alloc]; omega) (hv.alloc hB _) (l.lg.dk.tab.below b1.out l.lg.dk.tab.lt) (by have : L.flatten.length ≤ 240 := hr.2; omega))
  rw [(rec_write hr).1, (rec_write hr).2] at KW
  have HPL := Lib.hid (recP_rec hr).length
  have HLT := Lib.hid (fun k hk => l.lg.lt k hk)
  have HTB := Lib.hid l.lg.dk.tab.lt
  have hseg := leastTo_free hno hb
  have hclr := l.clr b (get_mem hb) hseg
  have KP := Lib.hid (fun (w' : World) (hl : LogS w' g h d t a X N C Bs os num) => show Calls Tryz.prog 36 #[.pointer (some ⟨g, 0, none⟩), .agg (cl (recP (kind, L.flatten)))] w' _ from hfull w' hl.lg hl.o (recP (kind, L.flatten)))
  have KB := Lib.hid (fun (w' : World) (hl : LogS w' g h d t a X N C Bs os num) => begin_some hl.lg hno hb hclr (hl.has x b hb) hnum hC4)
  have HBG := Lib.hid (fun (w' w2 : World) (X' : DS) (hl : LogS w' g h d t a X N C Bs os num) (W : Wrote w' w2 g h d t a X X' N (C + 5) (Bs.set x (b.begin_ (num + 1))) (num + 1) x (b.begin_ (num + 1)).pages) => hl.begin_ hb hseg (by omega) W)
  have hb2 : (Bs.set x (b.begin_ (num + 1)))[x]? = some (b.begin_ (num + 1)) := by rw [List.getElem?_set_self (get_lt hb)]
  have hlast : (os ++ [x]).getLast? = some x := by simp
  have KP2 := Lib.hid (fun (w' : World) (X' : DS) (hl : LogS w' g h d t a X' N (C + 5) (Bs.set x (b.begin_ (num + 1))) (os ++ [x]) (num + 1)) => put_some hl.lg hl.o hlast hb2 (show (2 : Nat) < 8 by omega) (hl.has x _ hb2) (by omega) hr)
  have HPUT := Lib.hid (fun (w' w2 : World) (X1 X' : DS) (hl : LogS w' g h d t a X1 N (C + 5) (Bs.set x (b.begin_ (num + 1))) (os ++ [x]) (num + 1)) (W : Wrote w' w2 g h d t a X1 X' N (C + 5 + 5) ((Bs.set x (b.begin_ (num + 1))).set x ((b.begin_ (num + 1)).put (kind, L.flatten))) (num + 1) x ((b.begin_ (num + 1)).put (kind, L.flatten)).pages) => hl.put hb2 rfl (show (2 : Nat) < 8 by omega) hr W)
  obtain ⟨k, hk⟩ : ∃ k, (b.begin_ (num + 1)).next = k := ⟨_, rfl⟩
  have hk2 : 2 = k := hk
  rw [hk] at KP2
  rw [hk2]
  obtain ⟨p, hp⟩ : ∃ p, recP (kind, L.flatten) = p := ⟨_, rfl⟩
  rw [hp] at KW HPL KP KP2
  clear l hv hr hp hB hfull hno hb hb2 hlast hseg hclr hk hk2 hnum hC4
  go_enter Tryz.func16, Tryz.ntmps16
  go_wp2_with (first
    | (go_at_call 34; ((with_reducible refine KH.out.mono ?_); rintro e w' ⟨rfl, rfl⟩; clear KH))
    | (go_at_call 35; ((with_reducible refine KW.out.mono ?_); rintro e w1 ⟨rfl, c1⟩; have B1 := Lib.hid (b1.out.trans (c1.mono b1.out.size)); have R2 := (R1.out.after c1).alloc (.cells (cl pzeros) 92); have N1 := PArr.new w1 pzeros_length; have hs1 := Lib.hid (R1.out.after c1).lt; clear KW c1))
    | (with_reducible refine wpl_pstore (.tmp 8) (.tmp 22) rfl rfl N1 rfl HPL.out rfl ?_; intro w2 P2 g2 e2; have B2 := Lib.hid ((B1.out.alloc B1.out.size (.cells (cl pzeros) 92)).grown g2 (by rw [World.size_alloc]; have := B1.out.size; omega) (fun k e => by cases e; exact B1.out.size)); have R3 := Lib.hid (R2.grown g2 (by simp; have := hs1.out; omega)); have Q2 := Lib.hid P2; clear N1 R2 g2 e2 P2))
  obtain ⟨q, hq⟩ : ∃ q, w1.heap.size = q := ⟨_, rfl⟩
  have HQ := Lib.hid (show w.heap.size < q by rw [← hq]; exact hs1.out)
  obtain ⟨s, hs⟩ : ∃ s, w.heap.size = s := ⟨_, rfl⟩
  have HS := Lib.hid hs
  rw [hs] at R3 ⊢
  rw [hq] at Q2 ⊢
  have L2 := Lib.hid (HL.out.after B2.out)
  clear hq hs R1 HL hs1
  go_loopg [7, 10, 11, 12, 13] 1 (fun gh _ _ _ _ _ wr => (Hid (wr = w2) ∧ gh = 1) ∨ (gh = 0 ∧ Hid (PArr wr q p ∧ Blk wr s 44 (plc 0 0) ∧ Chg w wr (a.log t d g h) ∧ ∃ X1, LogS wr g h d t a X1 N (C + 5) (Bs.set x (b.begin_ (num + 1))) (os ++ [x]) (num + 1))))
  case atStart => exact Or.inl ⟨Lib.hid rfl, rfl⟩
  case round =>
    rcases hrel with ⟨hE, hgh⟩ | ⟨hgh, HQ3⟩
    · have hE := hE.out
      subst hE
      have P3 := Q2.out
      have KT := Lib.hid (KP.out wr L2.out)
      clear KP
      go_wp2_with (first
        | (with_reducible refine wpl_pload (.tmp 8) rfl rfl P3 rfl ?_)
        | (go_at_call 36; ((with_reducible refine KT.out.mono ?_); rintro e w5 ⟨rfl, c5⟩; have B5 := Lib.hid (B2.out.trans (c5.mono B2.out.size)); have N5 := (show Blk (w5.alloc (.cells #[.int .i64 0, .int .i64 0] 44)) w5.heap.size 44 (plc 0 0) from Blk.new w5 44 (plc 0 0)); have R5 := (R3.out.after c5).alloc (.cells #[.int .i64 0, .int .i64 0] 44); have h5 := Lib.hid (R3.out.after c5).lt; have L5 := Lib.hid (L2.out.after c5); have Q5 := Lib.hid (Q2.out.after c5); clear KT c5))
        | (with_reducible refine wpl_seg_store sizePl (.tmp 10) (.tmp 32) rfl rfl N5 0 (plc 0 0) rfl (Nat.le_refl _) (plc_one 0 0) rfl rfl _ rfl ?_; intro w6 N6 g6 e6; have R6 := Lib.hid (R5.grown g6 (by simp; have := h5.out; omega)); have C6 := Lib.hid (((Below.refl w5.heap.size w5).alloc (Nat.le_refl _) (.cells #[.int .i64 0, .int .i64 0] 44)).grown g6 (by simp) (fun k e => by cases e; exact Nat.le_refl _)); have L6 := Lib.hid (L5.out.after C6.out); have Q6 := Lib.hid (Q5.out.after C6.out); have K6 := Lib.hid (KB.out w6 L6.out); clear N5 R5 g6 e6)
        | (go_at_call 37; ((with_reducible refine K6.out.mono ?_); rintro e w7 ⟨rfl, X1, W⟩; have L7 := Lib.hid (HBG.out _ _ _ L6.out W); have Z7 := Lib.hid W.chg; clear K6 W)))
      go_roundg 0
      case measure => omega
      case rel =>
        have hz := HS.out
        have hn : ∀ j, w.heap.size ≤ j → ¬ a.log t d g h j := fun j hj e => by have := HLT.out j e; omega
        refine Or.inr ⟨rfl, Lib.hid ⟨?_, R6.out.chg Z7.out (hn s (by omega)), ((Chg.of_below B5.out).trans (Chg.of_below C6.out)).trans Z7.out, X1, L7.out⟩⟩
        exact ⟨(Z7.out.block q Q6.out.lt (hn q (by have := HQ.out; omega))).trans Q6.out.1, Q6.out.2⟩
    · obtain ⟨hP, hR, hC, X1, hLS⟩ := HQ3.out
      have P3 := hP
      have RR := Lib.hid hR
      have CC := Lib.hid hC
      have LS := Lib.hid hLS
      have KT := Lib.hid (KP2.out wr X1 hLS)
      clear hP hR hC hLS KP2 HQ3
      go_wp2_with (first
        | (with_reducible refine wpl_pload (.tmp 8) rfl rfl P3 rfl ?_)
        | (go_at_call 36; ((with_reducible refine KT.out.mono ?_); rintro e w5 ⟨rfl, X', W⟩; have W5 := Lib.hid W; have N5 := (show Blk (w5.alloc (.cells #[.int .i64 0, .int .i64 0] 44)) w5.heap.size 44 (plc 0 0) from Blk.new w5 44 (plc 0 0)); have R5 := ((RR.out).chg W.chg (fun e => by have := HLT.out _ e; have := HS.out; omega)).alloc (.cells #[.int .i64 0, .int .i64 0] 44); have h5 := Lib.hid ((RR.out).chg W.chg (fun e => by have := HLT.out _ e; have := HS.out; omega)).lt; clear W KT))
        | (with_reducible refine wpl_seg_store sizePl (.tmp 10) (.tmp 32) rfl rfl N5 0 (plc x k) rfl (Nat.le_refl _) (plc_one x k) rfl rfl _ rfl ?_; intro w6 N6 g6 e6; have R6 := R5.grown g6 (by simp; have := h5.out; omega); have C6 := Lib.hid ((Chg.of_grown (S := fun j => j = w5.heap.size) (w := w5) (r := some w5.heap.size) ⟨g6.os, g6.tape, g6.output, Nat.le_trans (by simp) g6.size, fun j hj hn => (g6.block j (by rw [World.size_alloc]; omega) hn).trans (Below.heap_alloc w5 _ j hj)⟩ (fun k e => by cases e; rfl))); clear N5 R5 g6 e6)
        | (with_reducible refine wpl_seg_load aggPl sizePl (.tmp 10) rfl rfl N6 0 (plc x k) rfl rfl rfl ?_)
        | (with_reducible refine wpl_seg_store sizePl (.tmp 6) (.tmp 40) rfl rfl R6 0 (plc x k) rfl (Nat.le_refl _) (plc_one x k) rfl rfl _ rfl ?_; intro w7 R7 g7 e7))
      refine bodyPost_ret (plret2 rfl _ R7 rfl rfl) rfl ?_
      have hz := HS.out
      have hz2 := W5.out.chg.size
      have hz3 := h5.out
      have C7 : Chg w5 w7 (fun j => j = w5.heap.size ∨ j = s) := (C6.out.more (fun _ _ e => Or.inl e)).trans (Chg.of_grown g7 (fun k e => by cases e; exact Or.inr rfl))
      have W7 := W5.out.lg.chg C7 (fun j hj e => by
        rcases hj with hj | hj
        · have := HLT.out j hj; omega
        · have := HTB.out; omega)
      have HS7 := HPUT.out _ _ _ _ LS.out W5.out
      have hz4 := CC.out.size
      exact ⟨rfl, X', ⟨W7, HS7.o, HS7.has, HS7.clr⟩, (CC.out.trans W5.out.chg).less C7 (fun j e => by rcases e with rfl | rfl; omega; omega)⟩
end
end Go.Proofs.YtdiocjneakfdgaaGreatDoor

