/- The contracts of New with bad blocks, of Bad and of Blocks. Condition: none but that the list and the power are there. -/
import Derived.Test.YtaafelhjcmgkdaaGreatDoorQNandN
import Derived.Test.YtaafelhjcmgkdaaGreatDoorQCore
namespace Go.Proofs.YtaafelhjcmgkdaaGreatDoor
open Go.RowKit
/-- is one of the numbers no block of N? -/
def badOut (N : Int) (zs : List Int) : Bool := zs.any fun z => decide (z < 0 ∨ N ≤ z)
theorem lacksC (c g N : Nat) (b : Int) (w : World) (e1 : w.cell? ⟨c, 1, none⟩ = some (.slice (some ⟨g, 0, none⟩) N N)) : Calls Tryz.prog 36 #[.pointer (some ⟨c, 0, none⟩), .int .i64 b] w fun e w' => e = .returned (.bool (decide (b < 0 ∨ (N : Int) ≤ b))) ∧ w = w' := by
  by_cases c1 : b < 0
  · have d1 : decide (b < 0) = true := by simp [c1]
    rw [decide_eq_true (.inl c1)]
    clear c1
    go_enter Tryz.func36, Tryz.ntmps36
    go_wp2
    go_ret
    exact ⟨rfl, rfl⟩
  · have d1 : decide (b < 0) = false := by simp [c1]
    obtain ⟨d, hd⟩ : ∃ d, d = decide ((N : Int) ≤ b) := ⟨_, rfl⟩
    have hh : decide (b < 0 ∨ (N : Int) ≤ b) = d := by
      rw [hd]
      by_cases c2 : (N : Int) ≤ b
      · rw [decide_eq_true c2, decide_eq_true (.inr c2)]
      · rw [decide_eq_false c2, decide_eq_false (fun h => h.elim c1 c2)]
    rw [hh]
    have hd' := hd.symm
    clear c1 hh hd
    go_enter Tryz.func36, Tryz.ntmps36
    go_wp2
    go_ret
    exact ⟨rfl, rfl⟩
set_option maxHeartbeats 1000000 in
theorem index_lacks (c g N : Nat) (zs : List Int) (v : Value) (w : World) (B : Nat) (hv : Nums w B .i64 v zs) (e1 : w.cell? ⟨c, 1, none⟩ = some (.slice (some ⟨g, 0, none⟩) N N)) :
    Calls Tryz.prog 55 #[v, .func (.func 36) #[.pointer (some ⟨c, 0, none⟩)] #[]] w fun e w' => (∃ i : Int, e = .returned (.int .i64 i) ∧ decide (0 ≤ i) = badOut N zs) ∧ w = w' := by
  obtain ⟨A, cap, rfl, hl, hm, hrow, _⟩ := hv
  unfold maxLen at hm
  have E1 := Lib.hid e1
  have HR := Lib.hid hrow
  clear e1 hrow
  go_enter Tryz.func55, Tryz.ntmps55
  go_wp2_with fail
  go_loopw [8] (fun i wr => ∃ j : Nat, j ≤ zs.length ∧ i = .int .i64 j ∧ wr = w ∧ ∀ z ∈ zs.take j, ¬ (z < 0 ∨ (N : Int) ≤ z)) (fun i _ => zs.length - (intOf i).toNat)
  case atStart => exact ⟨0, Nat.zero_le _, rfl, rfl, fun z h => by simp at h⟩
  case round =>
    obtain ⟨j, hj, rfl, rfl, hno⟩ := hrel
    have HN := Lib.hid hno
    clear hno
    by_cases hlt : j < zs.length
    · obtain ⟨a, rfl, hab, hcell⟩ := HR.out.at_ (k := j) (by simpa using hlt)
      rw [List.getElem_map] at hcell
      have ht := take_snoc zs (List.getElem?_eq_getElem hlt)
      have hmem := List.getElem_mem hlt
      obtain ⟨z, hz⟩ : ∃ z, z = zs[j] := ⟨_, rfl⟩
      rw [← hz] at hcell ht hmem
      have HT := Lib.hid ht
      have HM := Lib.hid hmem
      have k1 := lacksC c g N z wr E1.out
      clear ht hz hmem
      by_cases hb : z < 0 ∨ (N : Int) ≤ z
      · rw [decide_eq_true hb] at k1
        have HB := Lib.hid hb
        clear hb
        go_wp2_with ((with_reducible refine k1.mono ?_); rintro e w' ⟨rfl, rfl⟩)
        go_ret
        refine ⟨⟨_, rfl, ?_⟩, rfl⟩
        rw [decide_eq_true (by omega)]
        exact (List.any_eq_true.2 ⟨z, HM.out, by simpa using HB.out⟩).symm
      · rw [decide_eq_false hb] at k1
        have HB := Lib.hid hb
        clear hb
        go_wp2_with ((with_reducible refine k1.mono ?_); rintro e w' ⟨rfl, rfl⟩)
        exact ⟨⟨j + 1, by omega, by go_num, by first | rfl | trivial, fun y hy => by
          rw [HT.out] at hy
          rcases List.mem_append.1 hy with h | h
          · exact HN.out y h
          · rw [List.mem_singleton.1 h]; exact HB.out⟩, by simp [intOf]; omega⟩
    · obtain rfl : j = zs.length := by omega
      go_wp2_with fail
      go_ret
      refine ⟨⟨_, rfl, ?_⟩, rfl⟩
      have h := HN.out
      rw [List.take_length] at h
      rw [decide_eq_false (by omega)]
      exact (List.any_eq_false.2 fun z hz => by simpa using h z hz).symm
theorem contains_lacks (c g N : Nat) (zs : List Int) (v : Value) (w : World) (B : Nat) (hv : Nums w B .i64 v zs) (e1 : w.cell? ⟨c, 1, none⟩ = some (.slice (some ⟨g, 0, none⟩) N N)) :
    Calls Tryz.prog 35 #[v, .func (.func 36) #[.pointer (some ⟨c, 0, none⟩)] #[]] w fun e w' => e = .returned (.bool (badOut N zs)) ∧ w = w' := by
  have k1 := index_lacks c g N zs v w B hv e1
  clear hv e1
  go_enter Tryz.func35, Tryz.ntmps35
  go_wp2_with fail
  ((with_reducible refine k1.mono ?_); rintro e w' ⟨⟨i, rfl, hi⟩, rfl⟩)
  go_wp2
  go_ret
  exact ⟨rfl, rfl⟩
/-- N blank blocks of which those in zs are bad -/
def markB (N : Nat) (zs : List Int) : List Bk := (List.range N).map fun (i : Nat) => { Bk.blank with bad := decide ((i : Int) ∈ zs) }
theorem markB_length (N : Nat) (zs : List Int) : (markB N zs).length = N := by simp [markB]
theorem markB_nil (N : Nat) : markB N [] = List.replicate N Bk.blank := by
  apply List.ext_getElem?
  intro i
  unfold markB
  rw [List.getElem?_map, List.getElem?_replicate]
  rcases Nat.lt_or_ge i N with h | h
  · rw [List.getElem?_range h, if_pos h]; rfl
  · rw [List.getElem?_eq_none (by simpa using h), if_neg (by omega)]; rfl
theorem markB_at {N : Nat} (zs : List Int) {i : Nat} (h : i < N) : (markB N zs)[i]'(by rw [markB_length]; exact h) = { Bk.blank with bad := decide ((i : Int) ∈ zs) } := by
  simp [markB]
theorem markB_step {N : Nat} (zs : List Int) {b : Nat} (h : b < N) : (markB N zs).set b ((markB N zs)[b]'(by rw [markB_length]; exact h)).setBad = markB N (zs ++ [(b : Int)]) := by
  rw [markB_at zs h]
  apply List.ext_getElem?
  intro i
  rw [List.getElem?_set, markB_length]
  by_cases e : b = i
  · subst e
    rw [if_pos rfl, if_pos h, List.getElem?_eq_getElem (by rw [markB_length]; exact h), markB_at _ h]
    simp [Bk.setBad]
  · rw [if_neg e]
    unfold markB
    rw [List.getElem?_map, List.getElem?_map]
    rcases Nat.lt_or_ge i N with h' | h'
    · rw [List.getElem?_range h']
      have : ((i : Int) = (b : Int)) ↔ False := ⟨fun h => e (by omega), False.elim⟩
      simp [this]
    · rw [List.getElem?_eq_none (by simpa using h')]; rfl
def Ch.marked (N : Nat) (zs : List Int) : Ch := ⟨markB N zs, false, false, 0, fun _ => false, 0, fun _ => false, 0⟩
/-- what New answers: 1 (it is refused), or 0 -/
def newE (n : Int) (zs : List Int) : Int := if n < 16 ∨ 40 < n ∨ badOut n zs = true then 1 else 0
set_option maxRecDepth 100000 in
set_option maxHeartbeats 4000000 in
theorem newB_any (N : Nat) (hN : 16 ≤ N ∧ N ≤ 40) (zs : List Int) (v : Value) (p : Nat) (s : NM.Pwr) (w : World) (hp : PPow w p s) (hv : Nums w w.heap.size .i64 v zs) (hz : badOut N zs = false) :
    Calls Tryz.prog 19 #[.pointer (some ⟨p, 0, none⟩), .int .i64 (N : Int), v] w fun e w' =>
      e = .returned (.tuple #[.pointer (some ⟨w.heap.size + 1, 0, none⟩), .int .i64 0]) ∧ PChip w' ⟨w.heap.size + 1, w.heap.size, p, none, none⟩ (Ch.marked N zs) ∧ Below w.heap.size w w' := by
  obtain ⟨hN1, hN2⟩ := hN
  have hmk := make_any N hN2
  have hpl := hp.lt
  have hv' := hv
  obtain ⟨A, cap, rfl, hl, hm, hrow, _⟩ := hv
  have HV := Lib.hid hv'
  have HR := Lib.hid hrow
  unfold maxLen at hm
  have HZ := Lib.hid hz
  have B0 : Hid (BG (w.alloc (.cells ((List.replicate N Bk.zero).map Bk.row).flatten.toArray 85)) w.heap.size (laidB N 0)) := Lib.hid (by
    refine ⟨?_, fun b hb => ?_⟩
    · have := Blk.new w 85 ((List.replicate N Bk.zero).map Bk.row).flatten
      simpa [laidB] using this
    · rw [List.eq_of_mem_replicate (show b ∈ List.replicate N Bk.zero by simpa [laidB] using hb)]
      exact Bk.zero_ok)
  have b0 : Below w.heap.size w (w.alloc (.cells ((List.replicate N Bk.zero).map Bk.row).flatten.toArray 85)) := (Below.refl _ _).alloc (Nat.le_refl _) _
  have hmf : ∀ (fn : Fn) (first cap : Array Value) (w : World), (Instr.makeFunc fn first cap).run Tryz.prog w = .ok (.func fn first cap) w := fun _ _ _ _ => rfl
  obtain ⟨cs0, hcs0⟩ : ∃ cs0, cs0 = ((List.replicate N Bk.zero).map Bk.row).flatten.toArray := ⟨_, rfl⟩
  rw [← hcs0] at hmk B0 b0
  clear hcs0 hp hv' hrow hz
  go_enter Tryz.func19, Tryz.ntmps19
  go_wp2_with fail
  have b1 := Lib.hid (b0.alloc (by simp) (.cells #[.pointer (some ⟨p, 0, none⟩), .slice (some ⟨w.heap.size, 0, none⟩) N N, .bool false, .bool false, .int .i64 0, .map none, .int .i64 0, .map none, .int .i64 0] 52))
  have B1 := Lib.hid (B0.out.alloc (.cells #[.pointer (some ⟨p, 0, none⟩), .slice (some ⟨w.heap.size, 0, none⟩) N N, .bool false, .bool false, .int .i64 0, .map none, .int .i64 0, .map none, .int .i64 0] 52))
  have C1 : Hid (Blk ((w.alloc (.cells cs0 85)).alloc (.cells #[.pointer (some ⟨p, 0, none⟩), .slice (some ⟨w.heap.size, 0, none⟩) N N, .bool false, .bool false, .int .i64 0, .map none, .int .i64 0, .map none, .int .i64 0] 52)) (w.heap.size + 1) 52 [.pointer (some ⟨p, 0, none⟩), .slice (some ⟨w.heap.size, 0, none⟩) N N, .bool false, .bool false, .int .i64 0, .map none, .int .i64 0, .map none, .int .i64 0]) := Lib.hid (by
    have := Blk.new (w.alloc (.cells cs0 85)) 52 [.pointer (some ⟨p, 0, none⟩), .slice (some ⟨w.heap.size, 0, none⟩) N N, .bool false, .bool false, .int .i64 0, .map none, .int .i64 0, .map none, .int .i64 0]
    rw [World.size_alloc] at this
    exact this)
  have V1 : Nums ((w.alloc (.cells cs0 85)).alloc (.cells #[.pointer (some ⟨p, 0, none⟩), .slice (some ⟨w.heap.size, 0, none⟩) N N, .bool false, .bool false, .int .i64 0, .map none, .int .i64 0, .map none, .int .i64 0] 52)) w.heap.size .i64 (.slice A zs.length cap) zs := by
    obtain ⟨A', cap', ev, hl1, hl2, hrow, hwf⟩ := HV.out
    exact ⟨A', cap', ev, hl1, hl2, hrow.below b1.out, hwf⟩
  have kc := contains_lacks (w.heap.size + 1) w.heap.size N zs _ _ _ V1 (C1.out.cell 1)
  rw [HZ.out] at kc
  obtain ⟨W1, hW1⟩ : ∃ W1, W1 = ((w.alloc (.cells cs0 85)).alloc (.cells #[.pointer (some ⟨p, 0, none⟩), .slice (some ⟨w.heap.size, 0, none⟩) N N, .bool false, .bool false, .int .i64 0, .map none, .int .i64 0, .map none, .int .i64 0] 52)) := ⟨_, rfl⟩
  rw [← hW1] at b1 B1 C1 kc ⊢
  clear b0 B0 hmk V1 hW1 hmf
  ((with_reducible refine kc.mono ?_); rintro e w' ⟨rfl, rfl⟩)
  have c1 : W1.cell? ⟨w.heap.size + 1, 1, none⟩ = some (.slice (some ⟨w.heap.size, 0, none⟩) N N) := C1.out.cell 1
  clear kc
  go_wp2_with fail
  clear c1
  go_loopw [32] (fun i wr => ∃ j : Nat, j ≤ N ∧ i = .int .i64 j ∧ BG wr w.heap.size (laidB N j) ∧ Blk wr (w.heap.size + 1) 52 [.pointer (some ⟨p, 0, none⟩), .slice (some ⟨w.heap.size, 0, none⟩) N N, .bool false, .bool false, .int .i64 0, .map none, .int .i64 0, .map none, .int .i64 0] ∧ Below w.heap.size w wr) (fun i _ => N - (intOf i).toNat)
  case atStart => exact ⟨0, by omega, rfl, B1.out, C1.out, b1.out⟩
  case round =>
    obtain ⟨j, hj, rfl, hB, hC, hb⟩ := hrel
    clear B1 C1 b1
    by_cases hlt : j < N
    · have c1 : wr.cell? ⟨w.heap.size + 1, 1, none⟩ = some (.slice (some ⟨w.heap.size, 0, none⟩) N N) := hC.cell 1
      have k1 := bwipe_any w.heap.size (laidB N j) j 8 (by rw [laidB_length hj]; exact hlt) (by omega) (by rw [laidB_length hj]; exact hN2) wr hB
      rw [laidB_step hlt, show ((8 : Nat) : Int) = 8 from rfl] at k1
      have HC := Lib.hid hC
      have Hb := Lib.hid hb
      clear hB hC hb
      go_wp2_with ((with_reducible refine k1.mono ?_); rintro e w5 ⟨rfl, B5, g5⟩)
      have C5 := HC.out.chg g5 (by omega)
      have b5 : Below w.heap.size w w5 := Hb.out.trans (g5.below (fun k e => by omega) Hb.out.size)
      have HB5 := Lib.hid B5
      clear k1 c1 g5 B5
      try (go_wp2_with fail)
      exact ⟨⟨j + 1, by omega, by go_num, HB5.out, C5, b5⟩, by simp [intOf]; omega⟩
    · obtain rfl : j = N := by omega
      rw [laidB_all, ← markB_nil] at hB
      have HB := Lib.hid hB
      have HC := Lib.hid hC
      have Hb := Lib.hid hb
      clear hB hC hb
      go_wp2_with fail
      go_loopw [45] (fun i w5 => ∃ k : Nat, k ≤ zs.length ∧ i = .int .i64 k ∧ BG w5 w.heap.size (markB j (zs.take k)) ∧ Blk w5 (w.heap.size + 1) 52 [.pointer (some ⟨p, 0, none⟩), .slice (some ⟨w.heap.size, 0, none⟩) j j, .bool false, .bool false, .int .i64 0, .map none, .int .i64 0, .map none, .int .i64 0] ∧ Below w.heap.size w w5) (fun i _ => zs.length - (intOf i).toNat)
      case atStart => exact ⟨0, Nat.zero_le _, rfl, HB.out, HC.out, Hb.out⟩
      case round =>
        obtain ⟨k, hk, rfl, hB, hC, hb⟩ := hrel
        clear HB HC Hb
        have HB := Lib.hid hB
        have HC := Lib.hid hC
        have Hb := Lib.hid hb
        clear hB hC hb
        by_cases hlt2 : k < zs.length
        · obtain ⟨a, rfl, hab, hcell⟩ := HR.out.at_ (k := k) (by simpa using hlt2)
          rw [List.getElem_map] at hcell
          have hc2 := (Hb.out.cell (p := a.add k) (by rw [add_block]; exact hab)).trans hcell
          have ht := take_snoc zs (List.getElem?_eq_getElem hlt2)
          have hno := List.any_eq_false.1 HZ.out _ (List.getElem_mem hlt2)
          obtain ⟨z, hz⟩ : ∃ z, z = zs[k] := ⟨_, rfl⟩
          rw [← hz] at hc2 ht hno
          have hno' : ¬ (z < 0 ∨ (j : Int) ≤ z) := by simpa using hno
          obtain ⟨b, rfl⟩ : ∃ b : Nat, z = (b : Int) := ⟨z.toNat, by omega⟩
          have hbj : b < j := by omega
          have HT := Lib.hid ht
          clear ht hno hno' hz hcell
          have hbl : b < (markB j (zs.take k)).length := by rw [markB_length]; exact hbj
          have c1 : wr.cell? ⟨w.heap.size + 1, 1, none⟩ = some (.slice (some ⟨w.heap.size, 0, none⟩) j j) := HC.out.cell 1
          have c3 : wr.cell? ⟨w.heap.size, b * 2066 + 2064 + 1, none⟩ = some (.bool (markB j (zs.take k))[b].bad) := HB.out.bad hbl
          have f3 := HB.out.free (b * 2066 + 2064 + 1)
          have B5 := HB.out.setBad hbl
          rw [markB_step _ hbj, ← HT.out] at B5
          have hg5 : wr.grownBy (wr.setCell ⟨w.heap.size, b * 2066 + 2065, none⟩ (.bool true)) (some w.heap.size) := ⟨rfl, rfl, rfl, by simp, fun i _ hi => Below.heap_setCell wr _ _ i (by simpa using hi)⟩
          have C5 := Lib.hid (HC.out.grown hg5 (by simp))
          have b5 := Lib.hid (Hb.out.grown hg5 Hb.out.size (fun k e => by cases e; exact Nat.le_refl _))
          have HB5 := Lib.hid B5
          clear B5 hg5
          go_wp2_with fail
          exact ⟨⟨k + 1, by omega, by go_num, HB5.out, C5.out, b5.out⟩, by simp [intOf]; omega⟩
        · obtain rfl : k = zs.length := by omega
          go_wp2_with fail
          go_ret2
          have hB := HB.out
          have hC := HC.out
          rw [List.take_length] at hB
          refine ⟨rfl, ⟨⟨.map none, .map none, ?_, .inl ⟨rfl, rfl, fun _ _ => rfl⟩, .inl ⟨rfl, rfl, fun _ _ => rfl⟩⟩, hB, ?_, ?_, ?_, ?_, ?_, ?_, ?_⟩, Hb.out⟩
          · unfold Ch.cells Ch.marked
            simp only [markB_length]
            exact hC
          · unfold Ch.marked
            simp only [markB_length]
            exact ⟨hN1, hN2⟩
          · show w.heap.size + 1 ≠ w.heap.size; omega
          · show p ≠ w.heap.size + 1; omega
          · show p ≠ w.heap.size; omega
          · intro b e; cases e
          · intro b e; cases e
          · intro b e; cases e
set_option maxRecDepth 100000 in
set_option maxHeartbeats 2000000 in
/-- New is refused -/
theorem newR_any (n : Int) (zs : List Int) (v : Value) (p : Nat) (w : World) (hv : Nums w w.heap.size .i64 v zs) (hz : newE n zs = 1) :
    Calls Tryz.prog 19 #[.pointer (some ⟨p, 0, none⟩), .int .i64 n, v] w fun e w' =>
      e = .returned (.tuple #[.pointer none, .int .i64 1]) ∧ Below w.heap.size w w' := by
  by_cases h1 : n < 16
  · have d1 : decide (n < 16) = true := by simp [h1]
    clear hz h1 hv
    go_enter Tryz.func19, Tryz.ntmps19
    go_wp2_with fail
    go_ret2
    exact ⟨rfl, Below.refl _ _⟩
  · have d1 : decide (n < 16) = false := by simp; omega
    by_cases h2 : 40 < n
    · have d2 : decide (40 < n) = true := by simp [h2]
      clear hz h1 h2 hv
      go_enter Tryz.func19, Tryz.ntmps19
      go_wp2_with fail
      go_ret2
      exact ⟨rfl, Below.refl _ _⟩
    · have hb : badOut n zs = true := by
        unfold newE at hz
        by_cases h : n < 16 ∨ 40 < n ∨ badOut n zs = true
        · rcases h with h | h | h
          · exact absurd h h1
          · exact absurd h h2
          · exact h
        · rw [if_neg h] at hz; cases hz
      obtain ⟨N, rfl⟩ : ∃ N : Nat, n = (N : Int) := ⟨n.toNat, by omega⟩
      have hN2 : N ≤ 40 := by omega
      have hN1 : 16 ≤ N := by omega
      have hmk := make_any N hN2
      have HV := Lib.hid hv
      have HZ := Lib.hid hb
      have b0 : Below w.heap.size w (w.alloc (.cells ((List.replicate N Bk.zero).map Bk.row).flatten.toArray 85)) := (Below.refl _ _).alloc (Nat.le_refl _) _
      have hmf : ∀ (fn : Fn) (first cap : Array Value) (w : World), (Instr.makeFunc fn first cap).run Tryz.prog w = .ok (.func fn first cap) w := fun _ _ _ _ => rfl
      obtain ⟨cs0, hcs0⟩ : ∃ cs0, cs0 = ((List.replicate N Bk.zero).map Bk.row).flatten.toArray := ⟨_, rfl⟩
      rw [← hcs0] at hmk b0
      clear hcs0 hz hv hb
      go_enter Tryz.func19, Tryz.ntmps19
      go_wp2_with fail
      have b1 := Lib.hid (b0.alloc (by simp) (.cells #[.pointer (some ⟨p, 0, none⟩), .slice (some ⟨w.heap.size, 0, none⟩) N N, .bool false, .bool false, .int .i64 0, .map none, .int .i64 0, .map none, .int .i64 0] 52))
      have C1 : Hid (Blk ((w.alloc (.cells cs0 85)).alloc (.cells #[.pointer (some ⟨p, 0, none⟩), .slice (some ⟨w.heap.size, 0, none⟩) N N, .bool false, .bool false, .int .i64 0, .map none, .int .i64 0, .map none, .int .i64 0] 52)) (w.heap.size + 1) 52 [.pointer (some ⟨p, 0, none⟩), .slice (some ⟨w.heap.size, 0, none⟩) N N, .bool false, .bool false, .int .i64 0, .map none, .int .i64 0, .map none, .int .i64 0]) := Lib.hid (by
        have := Blk.new (w.alloc (.cells cs0 85)) 52 [.pointer (some ⟨p, 0, none⟩), .slice (some ⟨w.heap.size, 0, none⟩) N N, .bool false, .bool false, .int .i64 0, .map none, .int .i64 0, .map none, .int .i64 0]
        rw [World.size_alloc] at this
        exact this)
      have V1 : Nums ((w.alloc (.cells cs0 85)).alloc (.cells #[.pointer (some ⟨p, 0, none⟩), .slice (some ⟨w.heap.size, 0, none⟩) N N, .bool false, .bool false, .int .i64 0, .map none, .int .i64 0, .map none, .int .i64 0] 52)) w.heap.size .i64 v zs := by
        obtain ⟨A', cap', ev, hl1, hl2, hrow, hwf⟩ := HV.out
        exact ⟨A', cap', ev, hl1, hl2, hrow.below b1.out, hwf⟩
      have kc := contains_lacks (w.heap.size + 1) w.heap.size N zs _ _ _ V1 (C1.out.cell 1)
      rw [HZ.out] at kc
      ((with_reducible refine kc.mono ?_); rintro e w' ⟨rfl, rfl⟩)
      clear kc
      go_wp2_with fail
      go_ret2
      exact ⟨rfl, b1.out⟩
theorem blocks_any (a : At) (S : Ch) (w : World) (h : PChip w a S) : Calls Tryz.prog 74 #[.pointer (some ⟨a.c, 0, none⟩)] w fun e w' => e = .returned (.int .i64 (S.bs.length : Int)) ∧ w = w' := by
  obtain ⟨_, e1, _, _, _⟩ := h.cell
  clear h
  go_enter Tryz.func74, Tryz.ntmps74
  go_wp2
  go_ret
  exact ⟨rfl, rfl⟩
/-- is the block there, and bad? -/
def Ch.isBad (S : Ch) (b : Int) : Bool := if b < 0 ∨ (S.bs.length : Int) ≤ b then false else (S.bs.getD b.toNat ⟨[], 0, false⟩).bad
set_option maxHeartbeats 1000000 in
theorem isbad_any (a : At) (S : Ch) (b : Int) (w : World) (h : PChip w a S) : Calls Tryz.prog 75 #[.pointer (some ⟨a.c, 0, none⟩), .int .i64 b] w fun e w' => e = .returned (.bool (S.isBad b)) ∧ w = w' := by
  have k1 := lacks_any a S b w h
  obtain ⟨_, e1, _, _, _⟩ := h.cell
  unfold Ch.isBad
  by_cases c : b < 0 ∨ (S.bs.length : Int) ≤ b
  · rw [decide_eq_true c] at k1
    rw [if_pos c]
    clear h c
    go_enter Tryz.func75, Tryz.ntmps75
    go_wp2_with ((with_reducible refine k1.mono ?_); rintro e w' ⟨rfl, rfl⟩)
    go_ret
    exact ⟨rfl, rfl⟩
  · rw [decide_eq_false c] at k1
    rw [if_neg c]
    obtain ⟨n, rfl⟩ : ∃ n : Nat, b = (n : Int) := ⟨b.toNat, by omega⟩
    have hn : n < S.bs.length := by omega
    have h3 : w.cell? ⟨a.g, n * 2066 + 2064 + 1, none⟩ = some (.bool S.bs[n].bad) := h.bg.bad hn
    have hl := h.len
    rw [Int.toNat_natCast, getBk hn]
    obtain ⟨d, hd⟩ : ∃ d, d = S.bs[n].bad := ⟨_, rfl⟩
    rw [← hd] at h3 ⊢
    clear h c hd
    go_enter Tryz.func75, Tryz.ntmps75
    go_wp2_with ((with_reducible refine k1.mono ?_); rintro e w' ⟨rfl, rfl⟩)
    go_ret
    exact ⟨rfl, rfl⟩
end Go.Proofs.YtaafelhjcmgkdaaGreatDoor

