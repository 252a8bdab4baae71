/- Which acts are to fail, as the chip is told: the contracts of newFaults and of Fail. Condition: at most 900 numbers. -/
import Derived.Test.YtdiocjneakfdgaaGreatDoorQNandN
import Derived.Test.YtdiocjneakfdgaaGreatDoorQCore
import Derived.Maps.OwnOps
namespace Go.Proofs.YtdiocjneakfdgaaGreatDoor
open Go.RowKit Go.Maps
theorem keyZ {z : Int} (h : (Lit.int .i64 z).wf = true) : keyOf Tryz.prog 3 (.int .i64 z) = some (.int .i64 z) := keyOf_int_mk Tryz.underlying3 h
/-- the map of the first numbers of zs -/
def FltD (D : DU) (zs : List Int) : Prop := ∀ i : Int, 0 ≤ i → Maps.has D (.int .i64 i) = decide (i ∈ zs)
theorem FltD.nil : FltD (.map []) [] := fun _ _ => rfl
theorem FltD.put {D : DU} {zs : List Int} (h : FltD D zs) (hm : IsMap D) (z : Int) : FltD (D.put (.int .i64 z) (.agg [])) (zs ++ [z]) := fun i hi => by
  by_cases e : i = z
  · subst e
    rw [has_put_same hm (k := .int .i64 i) (by unfold WideAt.IsKeyLit; trivial)]
    simp
  · rw [has_put_other (by intro h; exact e (Lit.int.inj h).2), h i hi]
    simp [e]
theorem FltD.skip {D : DU} {zs : List Int} (h : FltD D zs) {z : Int} (hz : z < 0) : FltD D (zs ++ [z]) := fun i hi => by
  rw [h i hi]
  have e : i ≠ z := by omega
  simp [e]
theorem aggFaults (w : World) : (isAgg 73).run Tryz.prog w = .ok true w := by kernel_rfl
theorem sizeFaults (w : World) : (sizeOf 73).run Tryz.prog w = .ok 2 w := by kernel_rfl
theorem oneFaults (z : Int) (m : Option Nat) : ∀ v ∈ ([.int .i64 z, .map m] : List Value), v.oneCell' = true := fun v hv => by
  rcases List.mem_cons.1 hv with rfl | hv
  · rfl
  · rcases List.mem_cons.1 hv with rfl | hv
    · rfl
    · cases hv
set_option maxRecDepth 100000 in
set_option maxHeartbeats 4000000 in
theorem newFaults_any (zs : List Int) (v : Value) (hlen : zs.length ≤ 900) (w : World) (hv : Nums w w.heap.size .i64 v zs) :
    Calls Tryz.prog 22 #[v] w fun e w' => ∃ b, e = .returned (.agg #[.int .i64 0, .map (some b)]) ∧ w.heap.size ≤ b ∧ Flt w' (.map (some b)) (some b) 0 (fun i => decide (i ∈ zs)) ∧ Below w.heap.size w w' := by
  obtain ⟨A, cap, rfl, hl1, hl2, hrow, hwf⟩ := hv
  have HR := Lib.hid hrow
  have HW := Lib.hid hwf
  clear hrow hwf
  have hmm := @run_makeMap Tryz.prog
  go_enter Tryz.func22, Tryz.ntmps22
  go_wp2_with fail
  have M0 : (((w.alloc (.cells #[.int .i64 0, .map none] 73)).alloc (.map #[] 0)).alloc (.cells #[.int .i64 0, .map (some (w.heap.size + 1))] 73)).ownsMap (H := Unit) Tryz.prog 3 unitElem (w.heap.size + 1) 0 (.map []) := by
    have h := World.ownsMap_made (H := Unit) (w.alloc (.cells #[.int .i64 0, .map none] 73)) Tryz.prog 3 unitElem
    rw [World.size_alloc] at h
    exact World.ownsMap.alloc h _
  have b0 : Below w.heap.size w (((w.alloc (.cells #[.int .i64 0, .map none] 73)).alloc (.map #[] 0)).alloc (.cells #[.int .i64 0, .map (some (w.heap.size + 1))] 73)) := (((Below.refl _ _).alloc (Nat.le_refl _) _).alloc (by simp) _).alloc (by simp; omega) _
  have R0 : Blk (((w.alloc (.cells #[.int .i64 0, .map none] 73)).alloc (.map #[] 0)).alloc (.cells #[.int .i64 0, .map (some (w.heap.size + 1))] 73)) w.heap.size 73 [.int .i64 0, .map none] := ((Blk.new w _ _).alloc _).alloc _
  have F0 : Blk (((w.alloc (.cells #[.int .i64 0, .map none] 73)).alloc (.map #[] 0)).alloc (.cells #[.int .i64 0, .map (some (w.heap.size + 1))] 73)) (w.heap.size + 1 + 1) 73 [.int .i64 0, .map (some (w.heap.size + 1))] := by
    have h := Blk.new ((w.alloc (.cells #[.int .i64 0, .map none] 73)).alloc (.map #[] 0)) 73 [.int .i64 0, .map (some (w.heap.size + 1))]
    rw [World.size_alloc, World.size_alloc] at h
    exact h
  obtain ⟨B, hB⟩ : ∃ B, B = w.heap.size + 1 := ⟨_, rfl⟩
  have hBl : w.heap.size + 1 = B := hB.symm
  rw [hBl] at M0 F0
  simp only [hBl] at M0 F0 R0 b0 ⊢
  go_loopw [10] (fun i wr => ∃ j : Nat, j ≤ zs.length ∧ i = .int .i64 j ∧ ∃ D : DU, wr.ownsMap Tryz.prog 3 unitElem B j D ∧ FltD D (zs.take j) ∧ Blk wr w.heap.size 73 [.int .i64 0, .map none] ∧ Blk wr (B + 1) 73 [.int .i64 0, .map (some B)] ∧ Below w.heap.size w wr) (fun i _ => zs.length - (intOf i).toNat)
  case atStart => exact ⟨0, Nat.zero_le _, rfl, .map [], M0, FltD.nil, R0, F0, b0⟩
  case round =>
    obtain ⟨j, hj, rfl, D, hown, hD, hR, hF, hb⟩ := hrel
    clear M0 R0 F0 b0
    have HO := Lib.hid hown
    have HD := Lib.hid hD
    have HRR := Lib.hid hR
    have HF := Lib.hid hF
    have HB := Lib.hid hb
    have hBB := Lib.hid hB
    by_cases hlt : j < zs.length
    · obtain ⟨a, rfl, hab, hcell⟩ := HR.out.at_ (k := j) (by simpa using hlt)
      have hc2 := (hb.cell (p := a.add j) (by rw [add_block]; exact hab)).trans hcell
      rw [List.getElem_map] at hc2
      have hz := HW.out _ (List.getElem_mem hlt)
      have ht := take_snoc zs (List.getElem?_eq_getElem hlt)
      obtain ⟨z, hzz⟩ : ∃ z, z = zs[j] := ⟨_, rfl⟩
      rw [← hzz] at hc2 hz ht
      have HZ := Lib.hid hz
      have HT := Lib.hid ht
      have hm : Hid (IsMap D) := Lib.hid hown.isMap
      clear hcell hown hD hR hF hb hz ht hzz hB hBl
      by_cases hneg : 0 ≤ z
      · have d1 : decide (0 ≤ z) = true := by simp [hneg]
        have c1 : wr.cell? ⟨B + 1, 1, none⟩ = some (.map (some B)) := HF.out.cell 1
        clear hneg
        go_wp2_with (at_mapUpdate; refine wpList_mapUpdate_own _ rfl _ _ _ 71 rfl 3 112 intKeyed Tryz.underlying71 _ B j _ rfl HO.out (by unfold maxLen; omega) _ _ (.int .i64 z) rfl rfl (keyZ HZ.out) _ [] unitElem_mk ?_; intro w6 hown6 hg6)
        have hs := HB.out.size
        have hbb := hBB.out
        exact ⟨⟨j + 1, by omega, by go_num, _, hown6, by rw [HT.out]; exact HD.out.put hm.out z, HRR.out.grown hg6 (by simp; omega), HF.out.grown hg6 (by simp), HB.out.grown hg6 hs (fun k e => by cases e; omega)⟩, by simp [intOf]; omega⟩
      · have d1 : decide (0 ≤ z) = false := by simp; omega
        have HN : Hid (z < 0) := Lib.hid (by omega)
        clear hneg
        go_wp2_with fail
        exact ⟨⟨j + 1, by omega, by go_num, _, HO.out.mono (by omega), by rw [HT.out]; exact HD.out.skip HN.out, HRR.out, HF.out, HB.out⟩, by simp [intOf]; omega⟩
    · obtain rfl : j = zs.length := by omega
      clear hown hD hR hF hb
      go_wp2_with (first | (with_reducible refine wpl_seg_load aggFaults sizeFaults (.tmp 3) rfl rfl HF.out 0 _ rfl rfl rfl ?_) | (with_reducible refine wpl_seg_store sizeFaults (.tmp 2) (.tmp 21) rfl rfl HRR.out 0 [.int .i64 0, .map (some B)] rfl (by simp) (oneFaults 0 (some B)) rfl rfl [.int .i64 0, .map (some B)] rfl ?_; intro w6 R6 g6 e6))
      have hbb := hBB.out
      have hs := HB.out.size
      (try simp only [Exit.inBlock, Exit.then])
      refine bodyPost_ret (sret1 aggFaults sizeFaults rfl _ R6 rfl rfl rfl) rfl ?_
      have hD := HD.out
      rw [List.take_length] at hD
      refine ⟨B, rfl, by omega, .inr ⟨B, zs.length, D, rfl, rfl, HO.out.kept g6 (by simp; omega), by omega, fun i hi => hD i (by omega)⟩, HB.out.grown g6 hs (fun k e => by cases e; exact Nat.le_refl _)⟩
/-- the chip at a that was told which acts of one kind fail -/
def At.told (a : At) (programs : Bool) (b : Nat) : At := if programs then { a with mp := some b } else { a with me := some b }
def Ch.told (S : Ch) (programs : Bool) (zs : List Int) : Ch := if programs then { S with dp := 0, fp := fun i => decide (i ∈ zs) } else { S with de := 0, fe := fun i => decide (i ∈ zs) }
set_option maxRecDepth 100000 in
set_option maxHeartbeats 4000000 in
theorem fail_any (a : At) (S : Ch) (programs : Bool) (zs : List Int) (v : Value) (hlen : zs.length ≤ 900) (w : World) (hp : a.p < w.heap.size) (h : PChip w a S) (hv : Nums w w.heap.size .i64 v zs) :
    Calls Tryz.prog 7 #[.pointer (some ⟨a.c, 0, none⟩), .bool programs, v] w fun e w' => ∃ b, e = .returned (.tuple #[]) ∧ w.heap.size ≤ b ∧ PChip w' (a.told programs b) (S.told programs zs) ∧ Chg w w' (fun j => j = a.c) := by
  obtain ⟨⟨vp, ve, hB, hFp, hFe⟩, hG, hlen', cg, pc, pg, mps, mes, mm⟩ := h
  have k1 := newFaults_any zs v hlen w hv
  have HFp := Lib.hid hFp
  have HFe := Lib.hid hFe
  have HG := Lib.hid hG
  have Hcl : Hid (a.c < w.heap.size) := Lib.hid hB.lt
  have Hgl : Hid (a.g < w.heap.size) := Lib.hid hG.lt
  have HB := Lib.hid hB
  have h8 : 6 + 2 ≤ (S.cells a vp ve).length := by show 8 ≤ 9; omega
  have h6 : 4 + 2 ≤ (S.cells a vp ve).length := by show 6 ≤ 9; omega
  clear hB hFp hFe hG hv
  cases programs
  · go_enter Tryz.func7, Tryz.ntmps7
    go_wp2_with fail
    ((with_reducible refine k1.mono ?_); rintro e w1 ⟨b, rfl, hb, F1, b1⟩)
    have B1 := HB.out.after b1
    have HF1 := Lib.hid F1
    have Hb1 := Lib.hid b1
    clear F1 b1 k1
    go_wp2_with (with_reducible refine wpl_seg_store sizeFaults (.tmp 16) (.tmp 14) rfl rfl B1 6 [.int .i64 0, .map (some b)] rfl h8 (oneFaults 0 (some b)) rfl rfl _ rfl ?_; intro w6 B6 g6 e6)
    go_end0
    have hc := Hcl.out
    have hg := Hgl.out
    have q6 : Chg w w6 (fun j => j = a.c) := (Chg.of_below Hb1.out).trans ((Chg.of_grown g6 (fun k e => Option.some.inj e)).more (fun _ _ e => e))
    have q7 : Chg w1 w6 (fun j => j = a.c) := Chg.of_grown g6 (fun k e => Option.some.inj e)
    refine ⟨rfl, b, hb, ⟨⟨vp, .map (some b), B6, HFp.out.chg q6 (fun b e => (mps b e).1), HF1.out.chg q7 (fun k e => by cases e; omega)⟩, HG.out.chg q6 (fun e => cg e.symm), hlen', cg, pc, pg, mps, fun k e => by cases e; exact ⟨by show b ≠ a.c; omega, by show b ≠ a.g; omega, by show b ≠ a.p; omega⟩, fun k e => ?_⟩, q6⟩
    have h2 := HFp.out.lt k e
    intro h3
    cases h3
    omega
  · go_enter Tryz.func7, Tryz.ntmps7
    go_wp2_with fail
    ((with_reducible refine k1.mono ?_); rintro e w1 ⟨b, rfl, hb, F1, b1⟩)
    have B1 := HB.out.after b1
    have HF1 := Lib.hid F1
    have Hb1 := Lib.hid b1
    clear F1 b1 k1
    go_wp2_with (with_reducible refine wpl_seg_store sizeFaults (.tmp 11) (.tmp 9) rfl rfl B1 4 [.int .i64 0, .map (some b)] rfl h6 (oneFaults 0 (some b)) rfl rfl _ rfl ?_; intro w6 B6 g6 e6)
    go_end0
    have hc := Hcl.out
    have hg := Hgl.out
    have q6 : Chg w w6 (fun j => j = a.c) := (Chg.of_below Hb1.out).trans ((Chg.of_grown g6 (fun k e => Option.some.inj e)).more (fun _ _ e => e))
    have q7 : Chg w1 w6 (fun j => j = a.c) := Chg.of_grown g6 (fun k e => Option.some.inj e)
    refine ⟨rfl, b, hb, ⟨⟨.map (some b), ve, B6, HF1.out.chg q7 (fun k e => by cases e; omega), HFe.out.chg q6 (fun b e => (mes b e).1)⟩, HG.out.chg q6 (fun e => cg e.symm), hlen', cg, pc, pg, fun k e => by cases e; exact ⟨by show b ≠ a.c; omega, by show b ≠ a.g; omega, by show b ≠ a.p; omega⟩, mes, fun k e => ?_⟩, q6⟩
    cases e
    intro h3
    have h2 := HFe.out.lt b h3
    omega
end Go.Proofs.YtdiocjneakfdgaaGreatDoor

