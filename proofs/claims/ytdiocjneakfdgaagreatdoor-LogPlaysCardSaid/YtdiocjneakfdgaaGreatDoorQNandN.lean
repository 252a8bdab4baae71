/- Several texts of the proof, joined: what each has is said at its head. -/
import Derived.Test.YtdiocjneakfdgaaGreatDoorQNandD
import Derived.Laws.MakeOwn
import Derived.Test.YtdiocjneakfdgaaGreatDoorQCore
/- The contracts of NewPower and of New with no bad block. Condition at New: 16 to 40 blocks. -/
namespace Go.Proofs.YtdiocjneakfdgaaGreatDoor
open Go.RowKit
/-- power that lasts -/
def NM.Pwr.fresh : NM.Pwr := ⟨false, -1, 0⟩
theorem newpower_any (w : World) : Calls Tryz.prog 19 #[] w fun e w' => e = .returned (.pointer (some ⟨w.heap.size, 0, none⟩)) ∧ PPow w' w.heap.size NM.Pwr.fresh ∧ Below w.heap.size w w' := by
  go_enter Tryz.func19, Tryz.ntmps19
  go_wp2
  go_ret
  exact ⟨rfl, ⟨false, 0, 0, Blk.new w _ _, fun _ => .inl ⟨rfl, by show (-1 : Int) < 0; omega⟩⟩, (Below.refl _ _).alloc (Nat.le_refl _) _⟩
/-- a block as it is laid; a blank one -/
def Bk.zero : Bk := ⟨List.replicate 8 pzeros, 0, false⟩
def Bk.blank : Bk := ⟨List.replicate 8 NM.ff, 0, false⟩
theorem Bk.zero_ok : Bk.zero.ok := ⟨rfl, fun l hl => by rw [List.eq_of_mem_replicate hl]; exact pzeros_length, by show 0 ≤ 8; omega⟩
def zBlock : Value := .agg ⟨List.replicate 2064 (.int .u8 0) ++ [.int .i64 0, .bool false]⟩
theorem infoBlock : (Tryz.prog.info? 103).map (fun i => (i.zero, i.size, i.bytes)) = some (some zBlock, 2066, 2080) := by kernel_rfl
theorem zBlock_cells : zBlock.cells.toList = Bk.zero.row := by
  have e : bv (List.replicate 8 pzeros).flatten = List.replicate 2064 (.int .u8 0) := by
    unfold pzeros
    rw [List.flatten_replicate_replicate]
    exact List.map_replicate
  unfold Bk.row Bk.zero
  rw [e]
  rfl
theorem made (n : Nat) : madeCells zBlock.cells (n * 2066) = ((List.replicate n Bk.zero).map Bk.row).flatten.toArray := by
  have hc : zBlock.cells = Bk.zero.row.toArray := by rw [← zBlock_cells]
  have hl := Bk.row_length Bk.zero_ok
  rw [hc]
  apply Array.toList_inj.1
  rw [List.toList_toArray]
  apply List.ext_getElem?
  intro i
  have hrow : ∀ l ∈ (List.replicate n Bk.zero).map Bk.row, l.length = 2066 := fun l h => by
    obtain ⟨b, hb, rfl⟩ := List.mem_map.1 h
    rw [List.eq_of_mem_replicate hb]; exact hl
  have hfl := NM.flat_length (n := 2066) _ hrow
  rw [List.length_map, List.length_replicate] at hfl
  rcases Nat.lt_or_ge i (n * 2066) with h | h
  · have hb : i / 2066 < n := by omega
    have e := NM.flat_get (n := 2066) _ hrow (i / 2066) (by simpa using hb) (i % 2066) (Nat.mod_lt _ (by omega))
    rw [show i / 2066 * 2066 + i % 2066 = i by omega] at e
    have hm : i % 2066 < Bk.zero.row.length := by rw [hl]; exact Nat.mod_lt _ (by omega)
    rw [e]
    simp [madeCells, h, hl]
    rw [List.getElem?_eq_getElem hm]
    rfl
  · rw [List.getElem?_eq_none (l := (List.map Bk.row (List.replicate n Bk.zero)).flatten) (by omega)]
    simp [madeCells]
    omega
theorem make_any (N : Nat) (hN : N ≤ 40) (w : World) : (Instr.makeSlice 75 (.int .i64 (N : Int)) (.int .i64 (N : Int))).run Tryz.prog w = .ok (.slice (some ⟨w.heap.size, 0, none⟩) N N) (w.alloc (.cells ((List.replicate N Bk.zero).map Bk.row).flatten.toArray 103)) := by
  have h := infoBlock
  obtain ⟨i, hi, hh⟩ := Option.map_eq_some_iff.1 h
  have e1 : i.zero = some zBlock := congrArg (·.1) hh
  have e2 : i.size = 2066 := congrArg (·.2.1) hh
  have e3 : i.bytes = 2080 := congrArg (·.2.2) hh
  have := run_make (P := Tryz.prog) w 75 103 i zBlock Tryz.underlying75 hi e1 .i64 .i64 N N (by omega) (by omega) (by rw [e3]; omega) (by omega)
  rw [e2, Int.toNat_natCast, made] at this
  exact this
/-- the first j of N blocks are blank -/
def laidB (N j : Nat) : List Bk := List.replicate j Bk.blank ++ List.replicate (N - j) Bk.zero
theorem laidB_length {N j : Nat} (h : j ≤ N) : (laidB N j).length = N := by simp [laidB]; omega
theorem laidB_step {N j : Nat} (h : j < N) : wipeB (laidB N j) j 8 = laidB N (j + 1) := by
  have hb : j < (laidB N j).length := by rw [laidB_length (by omega)]; exact h
  have e : (laidB N j)[j] = Bk.zero := by
    have : (laidB N j)[j]? = some Bk.zero := by
      unfold laidB
      rw [List.getElem?_append_right (by simp), List.length_replicate, Nat.sub_self, List.getElem?_replicate, if_pos (by omega)]
    rw [List.getElem?_eq_getElem hb] at this
    exact Option.some.inj this
  unfold wipeB
  rw [getBk hb, e]
  unfold laidB
  rw [List.set_append_right _ _ (by simp), List.length_replicate, Nat.sub_self, show N - j = (N - (j + 1)) + 1 by omega, List.replicate_succ, List.set_cons_zero, List.replicate_succ', List.append_assoc]
  rfl
theorem laidB_all (N : Nat) : laidB N N = List.replicate N Bk.blank := by simp [laidB]
def Ch.blank (N : Nat) : Ch := ⟨List.replicate N Bk.blank, false, false, 0, fun _ => false, 0, fun _ => false, 0⟩
end Go.Proofs.YtdiocjneakfdgaaGreatDoor

/- The contract of New with no bad block. Condition: 16 to 40 blocks. -/
namespace Go.Proofs.YtdiocjneakfdgaaGreatDoor
open Go.RowKit
end Go.Proofs.YtdiocjneakfdgaaGreatDoor

/- The law's page of a byte; the contracts of Put and Die. No condition but that the chip is there. -/
namespace Go.Proofs.YtdiocjneakfdgaaGreatDoor
open Go.RowKit
/-- the byte at place i of the page of b -/
def pbyte (b : UInt8) (i : Nat) : UInt8 := UInt8.ofNat (b.toNat + i * b.toNat)
def lpageN (b : UInt8) : Nat → List UInt8
  | 0 => pzeros
  | k + 1 => (lpageN b k).set k (pbyte b k)
def lpage (b : UInt8) : List UInt8 := lpageN b 258
def Ch.setOut (S : Ch) (o : Bool) : Ch := { S with out := o }
def Ch.setDead (S : Ch) : Ch := { S with dead := true }
end Go.Proofs.YtdiocjneakfdgaaGreatDoor

/- The contracts of New with bad blocks, of Bad and of Blocks. Condition: none but that the list and the power are there. -/
namespace Go.Proofs.YtdiocjneakfdgaaGreatDoor
open Go.RowKit
/-- is one of the numbers no block of N? -/
def badOut (N : Int) (zs : List Int) : Bool := zs.any fun z => decide (z < 0 ∨ N ≤ z)
theorem lacksC (c g N : Nat) (b : Int) (w : World) (e1 : w.cell? ⟨c, 1, none⟩ = some (.slice (some ⟨g, 0, none⟩) N N)) : Calls Tryz.prog 40 #[.pointer (some ⟨c, 0, none⟩), .int .i64 b] w fun e w' => e = .returned (.bool (decide (b < 0 ∨ (N : Int) ≤ b))) ∧ w = w' := by
  by_cases c1 : b < 0
  · have d1 : decide (b < 0) = true := by simp [c1]
    rw [decide_eq_true (.inl c1)]
    clear c1
    go_enter Tryz.func40, Tryz.ntmps40
    go_wp2
    go_ret
    exact ⟨rfl, rfl⟩
  · have d1 : decide (b < 0) = false := by simp [c1]
    obtain ⟨d, hd⟩ : ∃ d, d = decide ((N : Int) ≤ b) := ⟨_, rfl⟩
    have hh : decide (b < 0 ∨ (N : Int) ≤ b) = d := by
      rw [hd]
      by_cases c2 : (N : Int) ≤ b
      · rw [decide_eq_true c2, decide_eq_true (.inr c2)]
      · rw [decide_eq_false c2, decide_eq_false (fun h => h.elim c1 c2)]
    rw [hh]
    have hd' := hd.symm
    clear c1 hh hd
    go_enter Tryz.func40, Tryz.ntmps40
    go_wp2
    go_ret
    exact ⟨rfl, rfl⟩
set_option maxHeartbeats 1000000 in
theorem index_lacks (c g N : Nat) (zs : List Int) (v : Value) (w : World) (B : Nat) (hv : Nums w B .i64 v zs) (e1 : w.cell? ⟨c, 1, none⟩ = some (.slice (some ⟨g, 0, none⟩) N N)) :
    Calls Tryz.prog 64 #[v, .func (.func 40) #[.pointer (some ⟨c, 0, none⟩)] #[]] w fun e w' => (∃ i : Int, e = .returned (.int .i64 i) ∧ decide (0 ≤ i) = badOut N zs) ∧ w = w' := by
  obtain ⟨A, cap, rfl, hl, hm, hrow, _⟩ := hv
  unfold maxLen at hm
  have E1 := Lib.hid e1
  have HR := Lib.hid hrow
  clear e1 hrow
  go_enter Tryz.func64, Tryz.ntmps64
  go_wp2_with fail
  go_loopw [8] (fun i wr => ∃ j : Nat, j ≤ zs.length ∧ i = .int .i64 j ∧ wr = w ∧ ∀ z ∈ zs.take j, ¬ (z < 0 ∨ (N : Int) ≤ z)) (fun i _ => zs.length - (intOf i).toNat)
  case atStart => exact ⟨0, Nat.zero_le _, rfl, rfl, fun z h => by simp at h⟩
  case round =>
    obtain ⟨j, hj, rfl, rfl, hno⟩ := hrel
    have HN := Lib.hid hno
    clear hno
    by_cases hlt : j < zs.length
    · obtain ⟨a, rfl, hab, hcell⟩ := HR.out.at_ (k := j) (by simpa using hlt)
      rw [List.getElem_map] at hcell
      have ht := take_snoc zs (List.getElem?_eq_getElem hlt)
      have hmem := List.getElem_mem hlt
      obtain ⟨z, hz⟩ : ∃ z, z = zs[j] := ⟨_, rfl⟩
      rw [← hz] at hcell ht hmem
      have HT := Lib.hid ht
      have HM := Lib.hid hmem
      have k1 := lacksC c g N z wr E1.out
      clear ht hz hmem
      by_cases hb : z < 0 ∨ (N : Int) ≤ z
      · rw [decide_eq_true hb] at k1
        have HB := Lib.hid hb
        clear hb
        go_wp2_with ((with_reducible refine k1.mono ?_); rintro e w' ⟨rfl, rfl⟩)
        go_ret
        refine ⟨⟨_, rfl, ?_⟩, rfl⟩
        rw [decide_eq_true (by omega)]
        exact (List.any_eq_true.2 ⟨z, HM.out, by simpa using HB.out⟩).symm
      · rw [decide_eq_false hb] at k1
        have HB := Lib.hid hb
        clear hb
        go_wp2_with ((with_reducible refine k1.mono ?_); rintro e w' ⟨rfl, rfl⟩)
        exact ⟨⟨j + 1, by omega, by go_num, by first | rfl | trivial, fun y hy => by
          rw [HT.out] at hy
          rcases List.mem_append.1 hy with h | h
          · exact HN.out y h
          · rw [List.mem_singleton.1 h]; exact HB.out⟩, by simp [intOf]; omega⟩
    · obtain rfl : j = zs.length := by omega
      go_wp2_with fail
      go_ret
      refine ⟨⟨_, rfl, ?_⟩, rfl⟩
      have h := HN.out
      rw [List.take_length] at h
      rw [decide_eq_false (by omega)]
      exact (List.any_eq_false.2 fun z hz => by simpa using h z hz).symm
theorem contains_lacks (c g N : Nat) (zs : List Int) (v : Value) (w : World) (B : Nat) (hv : Nums w B .i64 v zs) (e1 : w.cell? ⟨c, 1, none⟩ = some (.slice (some ⟨g, 0, none⟩) N N)) :
    Calls Tryz.prog 39 #[v, .func (.func 40) #[.pointer (some ⟨c, 0, none⟩)] #[]] w fun e w' => e = .returned (.bool (badOut N zs)) ∧ w = w' := by
  have k1 := index_lacks c g N zs v w B hv e1
  clear hv e1
  go_enter Tryz.func39, Tryz.ntmps39
  go_wp2_with fail
  ((with_reducible refine k1.mono ?_); rintro e w' ⟨⟨i, rfl, hi⟩, rfl⟩)
  go_wp2
  go_ret
  exact ⟨rfl, rfl⟩
/-- N blank blocks of which those in zs are bad -/
def markB (N : Nat) (zs : List Int) : List Bk := (List.range N).map fun (i : Nat) => { Bk.blank with bad := decide ((i : Int) ∈ zs) }
theorem markB_length (N : Nat) (zs : List Int) : (markB N zs).length = N := by simp [markB]
theorem markB_nil (N : Nat) : markB N [] = List.replicate N Bk.blank := by
  apply List.ext_getElem?
  intro i
  unfold markB
  rw [List.getElem?_map, List.getElem?_replicate]
  rcases Nat.lt_or_ge i N with h | h
  · rw [List.getElem?_range h, if_pos h]; rfl
  · rw [List.getElem?_eq_none (by simpa using h), if_neg (by omega)]; rfl
theorem markB_at {N : Nat} (zs : List Int) {i : Nat} (h : i < N) : (markB N zs)[i]'(by rw [markB_length]; exact h) = { Bk.blank with bad := decide ((i : Int) ∈ zs) } := by
  simp [markB]
theorem markB_step {N : Nat} (zs : List Int) {b : Nat} (h : b < N) : (markB N zs).set b ((markB N zs)[b]'(by rw [markB_length]; exact h)).setBad = markB N (zs ++ [(b : Int)]) := by
  rw [markB_at zs h]
  apply List.ext_getElem?
  intro i
  rw [List.getElem?_set, markB_length]
  by_cases e : b = i
  · subst e
    rw [if_pos rfl, if_pos h, List.getElem?_eq_getElem (by rw [markB_length]; exact h), markB_at _ h]
    simp [Bk.setBad]
  · rw [if_neg e]
    unfold markB
    rw [List.getElem?_map, List.getElem?_map]
    rcases Nat.lt_or_ge i N with h' | h'
    · rw [List.getElem?_range h']
      have : ((i : Int) = (b : Int)) ↔ False := ⟨fun h => e (by omega), False.elim⟩
      simp [this]
    · rw [List.getElem?_eq_none (by simpa using h')]; rfl
def Ch.marked (N : Nat) (zs : List Int) : Ch := ⟨markB N zs, false, false, 0, fun _ => false, 0, fun _ => false, 0⟩
/-- what New answers: 1 (it is refused), or 0 -/
def newE (n : Int) (zs : List Int) : Int := if n < 16 ∨ 40 < n ∨ badOut n zs = true then 1 else 0
set_option maxRecDepth 100000 in
set_option maxHeartbeats 4000000 in
theorem newB_any (N : Nat) (hN : 16 ≤ N ∧ N ≤ 40) (zs : List Int) (v : Value) (p : Nat) (s : NM.Pwr) (w : World) (hp : PPow w p s) (hv : Nums w w.heap.size .i64 v zs) (hz : badOut N zs = false) :
    Calls Tryz.prog 18 #[.pointer (some ⟨p, 0, none⟩), .int .i64 (N : Int), v] w fun e w' =>
      e = .returned (.tuple #[.pointer (some ⟨w.heap.size + 1, 0, none⟩), .int .i64 0]) ∧ PChip w' ⟨w.heap.size + 1, w.heap.size, p, none, none⟩ (Ch.marked N zs) ∧ Below w.heap.size w w' := by
  obtain ⟨hN1, hN2⟩ := hN
  have hmk := make_any N hN2
  have hpl := hp.lt
  have hv' := hv
  obtain ⟨A, cap, rfl, hl, hm, hrow, _⟩ := hv
  have HV := Lib.hid hv'
  have HR := Lib.hid hrow
  unfold maxLen at hm
  have HZ := Lib.hid hz
  have B0 : Hid (BG (w.alloc (.cells ((List.replicate N Bk.zero).map Bk.row).flatten.toArray 103)) w.heap.size (laidB N 0)) := Lib.hid (by
    refine ⟨?_, fun b hb => ?_⟩
    · have := Blk.new w 103 ((List.replicate N Bk.zero).map Bk.row).flatten
      simpa [laidB] using this
    · rw [List.eq_of_mem_replicate (show b ∈ List.replicate N Bk.zero by simpa [laidB] using hb)]
      exact Bk.zero_ok)
  have b0 : Below w.heap.size w (w.alloc (.cells ((List.replicate N Bk.zero).map Bk.row).flatten.toArray 103)) := (Below.refl _ _).alloc (Nat.le_refl _) _
  have hmf : ∀ (fn : Fn) (first cap : Array Value) (w : World), (Instr.makeFunc fn first cap).run Tryz.prog w = .ok (.func fn first cap) w := fun _ _ _ _ => rfl
  obtain ⟨cs0, hcs0⟩ : ∃ cs0, cs0 = ((List.replicate N Bk.zero).map Bk.row).flatten.toArray := ⟨_, rfl⟩
  rw [← hcs0] at hmk B0 b0
  clear hcs0 hp hv' hrow hz
  go_enter Tryz.func18, Tryz.ntmps18
  go_wp2_with fail
  have b1 := Lib.hid (b0.alloc (by simp) (.cells #[.pointer (some ⟨p, 0, none⟩), .slice (some ⟨w.heap.size, 0, none⟩) N N, .bool false, .bool false, .int .i64 0, .map none, .int .i64 0, .map none, .int .i64 0] 77))
  have B1 := Lib.hid (B0.out.alloc (.cells #[.pointer (some ⟨p, 0, none⟩), .slice (some ⟨w.heap.size, 0, none⟩) N N, .bool false, .bool false, .int .i64 0, .map none, .int .i64 0, .map none, .int .i64 0] 77))
  have C1 : Hid (Blk ((w.alloc (.cells cs0 103)).alloc (.cells #[.pointer (some ⟨p, 0, none⟩), .slice (some ⟨w.heap.size, 0, none⟩) N N, .bool false, .bool false, .int .i64 0, .map none, .int .i64 0, .map none, .int .i64 0] 77)) (w.heap.size + 1) 77 [.pointer (some ⟨p, 0, none⟩), .slice (some ⟨w.heap.size, 0, none⟩) N N, .bool false, .bool false, .int .i64 0, .map none, .int .i64 0, .map none, .int .i64 0]) := Lib.hid (by
    have := Blk.new (w.alloc (.cells cs0 103)) 77 [.pointer (some ⟨p, 0, none⟩), .slice (some ⟨w.heap.size, 0, none⟩) N N, .bool false, .bool false, .int .i64 0, .map none, .int .i64 0, .map none, .int .i64 0]
    rw [World.size_alloc] at this
    exact this)
  have V1 : Nums ((w.alloc (.cells cs0 103)).alloc (.cells #[.pointer (some ⟨p, 0, none⟩), .slice (some ⟨w.heap.size, 0, none⟩) N N, .bool false, .bool false, .int .i64 0, .map none, .int .i64 0, .map none, .int .i64 0] 77)) w.heap.size .i64 (.slice A zs.length cap) zs := by
    obtain ⟨A', cap', ev, hl1, hl2, hrow, hwf⟩ := HV.out
    exact ⟨A', cap', ev, hl1, hl2, hrow.below b1.out, hwf⟩
  have kc := contains_lacks (w.heap.size + 1) w.heap.size N zs _ _ _ V1 (C1.out.cell 1)
  rw [HZ.out] at kc
  obtain ⟨W1, hW1⟩ : ∃ W1, W1 = ((w.alloc (.cells cs0 103)).alloc (.cells #[.pointer (some ⟨p, 0, none⟩), .slice (some ⟨w.heap.size, 0, none⟩) N N, .bool false, .bool false, .int .i64 0, .map none, .int .i64 0, .map none, .int .i64 0] 77)) := ⟨_, rfl⟩
  rw [← hW1] at b1 B1 C1 kc ⊢
  clear b0 B0 hmk V1 hW1 hmf
  ((with_reducible refine kc.mono ?_); rintro e w' ⟨rfl, rfl⟩)
  have c1 : W1.cell? ⟨w.heap.size + 1, 1, none⟩ = some (.slice (some ⟨w.heap.size, 0, none⟩) N N) := C1.out.cell 1
  clear kc
  go_wp2_with fail
  clear c1
  go_loopw [32] (fun i wr => ∃ j : Nat, j ≤ N ∧ i = .int .i64 j ∧ BG wr w.heap.size (laidB N j) ∧ Blk wr (w.heap.size + 1) 77 [.pointer (some ⟨p, 0, none⟩), .slice (some ⟨w.heap.size, 0, none⟩) N N, .bool false, .bool false, .int .i64 0, .map none, .int .i64 0, .map none, .int .i64 0] ∧ Below w.heap.size w wr) (fun i _ => N - (intOf i).toNat)
  case atStart => exact ⟨0, by omega, rfl, B1.out, C1.out, b1.out⟩
  case round =>
    obtain ⟨j, hj, rfl, hB, hC, hb⟩ := hrel
    clear B1 C1 b1
    by_cases hlt : j < N
    · have c1 : wr.cell? ⟨w.heap.size + 1, 1, none⟩ = some (.slice (some ⟨w.heap.size, 0, none⟩) N N) := hC.cell 1
      have k1 := bwipe_any w.heap.size (laidB N j) j 8 (by rw [laidB_length hj]; exact hlt) (by omega) (by rw [laidB_length hj]; exact hN2) wr hB
      rw [laidB_step hlt, show ((8 : Nat) : Int) = 8 from rfl] at k1
      have HC := Lib.hid hC
      have Hb := Lib.hid hb
      clear hB hC hb
      go_wp2_with ((with_reducible refine k1.mono ?_); rintro e w5 ⟨rfl, B5, g5⟩)
      have C5 := HC.out.chg g5 (by omega)
      have b5 : Below w.heap.size w w5 := Hb.out.trans (g5.below (fun k e => by omega) Hb.out.size)
      have HB5 := Lib.hid B5
      clear k1 c1 g5 B5
      try (go_wp2_with fail)
      exact ⟨⟨j + 1, by omega, by go_num, HB5.out, C5, b5⟩, by simp [intOf]; omega⟩
    · obtain rfl : j = N := by omega
      rw [laidB_all, ← markB_nil] at hB
      have HB := Lib.hid hB
      have HC := Lib.hid hC
      have Hb := Lib.hid hb
      clear hB hC hb
      go_wp2_with fail
      go_loopw [45] (fun i w5 => ∃ k : Nat, k ≤ zs.length ∧ i = .int .i64 k ∧ BG w5 w.heap.size (markB j (zs.take k)) ∧ Blk w5 (w.heap.size + 1) 77 [.pointer (some ⟨p, 0, none⟩), .slice (some ⟨w.heap.size, 0, none⟩) j j, .bool false, .bool false, .int .i64 0, .map none, .int .i64 0, .map none, .int .i64 0] ∧ Below w.heap.size w w5) (fun i _ => zs.length - (intOf i).toNat)
      case atStart => exact ⟨0, Nat.zero_le _, rfl, HB.out, HC.out, Hb.out⟩
      case round =>
        obtain ⟨k, hk, rfl, hB, hC, hb⟩ := hrel
        clear HB HC Hb
        have HB := Lib.hid hB
        have HC := Lib.hid hC
        have Hb := Lib.hid hb
        clear hB hC hb
        by_cases hlt2 : k < zs.length
        · obtain ⟨a, rfl, hab, hcell⟩ := HR.out.at_ (k := k) (by simpa using hlt2)
          rw [List.getElem_map] at hcell
          have hc2 := (Hb.out.cell (p := a.add k) (by rw [add_block]; exact hab)).trans hcell
          have ht := take_snoc zs (List.getElem?_eq_getElem hlt2)
          have hno := List.any_eq_false.1 HZ.out _ (List.getElem_mem hlt2)
          obtain ⟨z, hz⟩ : ∃ z, z = zs[k] := ⟨_, rfl⟩
          rw [← hz] at hc2 ht hno
          have hno' : ¬ (z < 0 ∨ (j : Int) ≤ z) := by simpa using hno
          obtain ⟨b, rfl⟩ : ∃ b : Nat, z = (b : Int) := ⟨z.toNat, by omega⟩
          have hbj : b < j := by omega
          have HT := Lib.hid ht
          clear ht hno hno' hz hcell
          have hbl : b < (markB j (zs.take k)).length := by rw [markB_length]; exact hbj
          have c1 : wr.cell? ⟨w.heap.size + 1, 1, none⟩ = some (.slice (some ⟨w.heap.size, 0, none⟩) j j) := HC.out.cell 1
          have c3 : wr.cell? ⟨w.heap.size, b * 2066 + 2064 + 1, none⟩ = some (.bool (markB j (zs.take k))[b].bad) := HB.out.bad hbl
          have f3 := HB.out.free (b * 2066 + 2064 + 1)
          have B5 := HB.out.setBad hbl
          rw [markB_step _ hbj, ← HT.out] at B5
          have hg5 : wr.grownBy (wr.setCell ⟨w.heap.size, b * 2066 + 2065, none⟩ (.bool true)) (some w.heap.size) := ⟨rfl, rfl, rfl, by simp, fun i _ hi => Below.heap_setCell wr _ _ i (by simpa using hi)⟩
          have C5 := Lib.hid (HC.out.grown hg5 (by simp))
          have b5 := Lib.hid (Hb.out.grown hg5 Hb.out.size (fun k e => by cases e; exact Nat.le_refl _))
          have HB5 := Lib.hid B5
          clear B5 hg5
          go_wp2_with fail
          exact ⟨⟨k + 1, by omega, by go_num, HB5.out, C5.out, b5.out⟩, by simp [intOf]; omega⟩
        · obtain rfl : k = zs.length := by omega
          go_wp2_with fail
          go_ret2
          have hB := HB.out
          have hC := HC.out
          rw [List.take_length] at hB
          refine ⟨rfl, ⟨⟨.map none, .map none, ?_, .inl ⟨rfl, rfl, fun _ _ => rfl⟩, .inl ⟨rfl, rfl, fun _ _ => rfl⟩⟩, hB, ?_, ?_, ?_, ?_, ?_, ?_, ?_⟩, Hb.out⟩
          · unfold Ch.cells Ch.marked
            simp only [markB_length]
            exact hC
          · unfold Ch.marked
            simp only [markB_length]
            exact ⟨hN1, hN2⟩
          · show w.heap.size + 1 ≠ w.heap.size; omega
          · show p ≠ w.heap.size + 1; omega
          · show p ≠ w.heap.size; omega
          · intro b e; cases e
          · intro b e; cases e
          · intro b e; cases e
set_option maxRecDepth 100000 in
set_option maxHeartbeats 2000000 in
/-- New is refused -/
theorem newR_any (n : Int) (zs : List Int) (v : Value) (p : Nat) (w : World) (hv : Nums w w.heap.size .i64 v zs) (hz : newE n zs = 1) :
    Calls Tryz.prog 18 #[.pointer (some ⟨p, 0, none⟩), .int .i64 n, v] w fun e w' =>
      e = .returned (.tuple #[.pointer none, .int .i64 1]) ∧ Below w.heap.size w w' := by
  by_cases h1 : n < 16
  · have d1 : decide (n < 16) = true := by simp [h1]
    clear hz h1 hv
    go_enter Tryz.func18, Tryz.ntmps18
    go_wp2_with fail
    go_ret2
    exact ⟨rfl, Below.refl _ _⟩
  · have d1 : decide (n < 16) = false := by simp; omega
    by_cases h2 : 40 < n
    · have d2 : decide (40 < n) = true := by simp [h2]
      clear hz h1 h2 hv
      go_enter Tryz.func18, Tryz.ntmps18
      go_wp2_with fail
      go_ret2
      exact ⟨rfl, Below.refl _ _⟩
    · have hb : badOut n zs = true := by
        unfold newE at hz
        by_cases h : n < 16 ∨ 40 < n ∨ badOut n zs = true
        · rcases h with h | h | h
          · exact absurd h h1
          · exact absurd h h2
          · exact h
        · rw [if_neg h] at hz; cases hz
      obtain ⟨N, rfl⟩ : ∃ N : Nat, n = (N : Int) := ⟨n.toNat, by omega⟩
      have hN2 : N ≤ 40 := by omega
      have hN1 : 16 ≤ N := by omega
      have hmk := make_any N hN2
      have HV := Lib.hid hv
      have HZ := Lib.hid hb
      have b0 : Below w.heap.size w (w.alloc (.cells ((List.replicate N Bk.zero).map Bk.row).flatten.toArray 103)) := (Below.refl _ _).alloc (Nat.le_refl _) _
      have hmf : ∀ (fn : Fn) (first cap : Array Value) (w : World), (Instr.makeFunc fn first cap).run Tryz.prog w = .ok (.func fn first cap) w := fun _ _ _ _ => rfl
      obtain ⟨cs0, hcs0⟩ : ∃ cs0, cs0 = ((List.replicate N Bk.zero).map Bk.row).flatten.toArray := ⟨_, rfl⟩
      rw [← hcs0] at hmk b0
      clear hcs0 hz hv hb
      go_enter Tryz.func18, Tryz.ntmps18
      go_wp2_with fail
      have b1 := Lib.hid (b0.alloc (by simp) (.cells #[.pointer (some ⟨p, 0, none⟩), .slice (some ⟨w.heap.size, 0, none⟩) N N, .bool false, .bool false, .int .i64 0, .map none, .int .i64 0, .map none, .int .i64 0] 77))
      have C1 : Hid (Blk ((w.alloc (.cells cs0 103)).alloc (.cells #[.pointer (some ⟨p, 0, none⟩), .slice (some ⟨w.heap.size, 0, none⟩) N N, .bool false, .bool false, .int .i64 0, .map none, .int .i64 0, .map none, .int .i64 0] 77)) (w.heap.size + 1) 77 [.pointer (some ⟨p, 0, none⟩), .slice (some ⟨w.heap.size, 0, none⟩) N N, .bool false, .bool false, .int .i64 0, .map none, .int .i64 0, .map none, .int .i64 0]) := Lib.hid (by
        have := Blk.new (w.alloc (.cells cs0 103)) 77 [.pointer (some ⟨p, 0, none⟩), .slice (some ⟨w.heap.size, 0, none⟩) N N, .bool false, .bool false, .int .i64 0, .map none, .int .i64 0, .map none, .int .i64 0]
        rw [World.size_alloc] at this
        exact this)
      have V1 : Nums ((w.alloc (.cells cs0 103)).alloc (.cells #[.pointer (some ⟨p, 0, none⟩), .slice (some ⟨w.heap.size, 0, none⟩) N N, .bool false, .bool false, .int .i64 0, .map none, .int .i64 0, .map none, .int .i64 0] 77)) w.heap.size .i64 v zs := by
        obtain ⟨A', cap', ev, hl1, hl2, hrow, hwf⟩ := HV.out
        exact ⟨A', cap', ev, hl1, hl2, hrow.below b1.out, hwf⟩
      have kc := contains_lacks (w.heap.size + 1) w.heap.size N zs _ _ _ V1 (C1.out.cell 1)
      rw [HZ.out] at kc
      ((with_reducible refine kc.mono ?_); rintro e w' ⟨rfl, rfl⟩)
      clear kc
      go_wp2_with fail
      go_ret2
      exact ⟨rfl, b1.out⟩
theorem blocks_any (a : At) (S : Ch) (w : World) (h : PChip w a S) : Calls Tryz.prog 89 #[.pointer (some ⟨a.c, 0, none⟩)] w fun e w' => e = .returned (.int .i64 (S.bs.length : Int)) ∧ w = w' := by
  obtain ⟨_, e1, _, _, _⟩ := h.cell
  clear h
  go_enter Tryz.func89, Tryz.ntmps89
  go_wp2
  go_ret
  exact ⟨rfl, rfl⟩
/-- is the block there, and bad? -/
def Ch.isBad (S : Ch) (b : Int) : Bool := if b < 0 ∨ (S.bs.length : Int) ≤ b then false else (S.bs.getD b.toNat ⟨[], 0, false⟩).bad
set_option maxHeartbeats 1000000 in
theorem isbad_any (a : At) (S : Ch) (b : Int) (w : World) (h : PChip w a S) : Calls Tryz.prog 90 #[.pointer (some ⟨a.c, 0, none⟩), .int .i64 b] w fun e w' => e = .returned (.bool (S.isBad b)) ∧ w = w' := by
  have k1 := lacks_any a S b w h
  obtain ⟨_, e1, _, _, _⟩ := h.cell
  unfold Ch.isBad
  by_cases c : b < 0 ∨ (S.bs.length : Int) ≤ b
  · rw [decide_eq_true c] at k1
    rw [if_pos c]
    clear h c
    go_enter Tryz.func90, Tryz.ntmps90
    go_wp2_with ((with_reducible refine k1.mono ?_); rintro e w' ⟨rfl, rfl⟩)
    go_ret
    exact ⟨rfl, rfl⟩
  · rw [decide_eq_false c] at k1
    rw [if_neg c]
    obtain ⟨n, rfl⟩ : ∃ n : Nat, b = (n : Int) := ⟨b.toNat, by omega⟩
    have hn : n < S.bs.length := by omega
    have h3 : w.cell? ⟨a.g, n * 2066 + 2064 + 1, none⟩ = some (.bool S.bs[n].bad) := h.bg.bad hn
    have hl := h.len
    rw [Int.toNat_natCast, getBk hn]
    obtain ⟨d, hd⟩ : ∃ d, d = S.bs[n].bad := ⟨_, rfl⟩
    rw [← hd] at h3 ⊢
    clear h c hd
    go_enter Tryz.func90, Tryz.ntmps90
    go_wp2_with ((with_reducible refine k1.mono ?_); rintro e w' ⟨rfl, rfl⟩)
    go_ret
    exact ⟨rfl, rfl⟩
end Go.Proofs.YtdiocjneakfdgaaGreatDoor

