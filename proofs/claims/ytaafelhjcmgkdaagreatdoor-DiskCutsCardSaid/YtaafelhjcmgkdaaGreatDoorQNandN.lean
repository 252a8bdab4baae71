/- Several texts of the proof, joined: what each has is said at its head. -/
import Derived.Test.YtaafelhjcmgkdaaGreatDoorQNandEr
import Derived.Laws.MakeOwn
/- The contracts of NewPower and of New with no bad block. Condition at New: 16 to 40 blocks. -/
namespace Go.Proofs.YtaafelhjcmgkdaaGreatDoor
open Go.RowKit
/-- power that lasts -/
def NM.Pwr.fresh : NM.Pwr := ⟨false, -1, 0⟩
theorem newpower_any (w : World) : Calls Tryz.prog 20 #[] w fun e w' => e = .returned (.pointer (some ⟨w.heap.size, 0, none⟩)) ∧ PPow w' w.heap.size NM.Pwr.fresh ∧ Below w.heap.size w w' := by
  go_enter Tryz.func20, Tryz.ntmps20
  go_wp2
  go_ret
  exact ⟨rfl, ⟨false, 0, 0, Blk.new w _ _, fun _ => .inl ⟨rfl, by show (-1 : Int) < 0; omega⟩⟩, (Below.refl _ _).alloc (Nat.le_refl _) _⟩
/-- a block as it is laid; a blank one -/
def Bk.zero : Bk := ⟨List.replicate 8 pzeros, 0, false⟩
def Bk.blank : Bk := ⟨List.replicate 8 NM.ff, 0, false⟩
theorem Bk.zero_ok : Bk.zero.ok := ⟨rfl, fun l hl => by rw [List.eq_of_mem_replicate hl]; exact pzeros_length, by show 0 ≤ 8; omega⟩
theorem Bk.blank_ok : Bk.blank.ok := ⟨rfl, fun l hl => by rw [List.eq_of_mem_replicate hl]; exact NM.ff_length, by show 0 ≤ 8; omega⟩
def zBlock : Value := .agg ⟨List.replicate 2064 (.int .u8 0) ++ [.int .i64 0, .bool false]⟩
theorem infoBlock : (Tryz.prog.info? 85).map (fun i => (i.zero, i.size, i.bytes)) = some (some zBlock, 2066, 2080) := by kernel_rfl
theorem zBlock_cells : zBlock.cells.toList = Bk.zero.row := by
  have e : bv (List.replicate 8 pzeros).flatten = List.replicate 2064 (.int .u8 0) := by
    unfold pzeros
    rw [List.flatten_replicate_replicate]
    exact List.map_replicate
  unfold Bk.row Bk.zero
  rw [e]
  rfl
theorem made (n : Nat) : madeCells zBlock.cells (n * 2066) = ((List.replicate n Bk.zero).map Bk.row).flatten.toArray := by
  have hc : zBlock.cells = Bk.zero.row.toArray := by rw [← zBlock_cells]
  have hl := Bk.row_length Bk.zero_ok
  rw [hc]
  apply Array.toList_inj.1
  rw [List.toList_toArray]
  apply List.ext_getElem?
  intro i
  have hrow : ∀ l ∈ (List.replicate n Bk.zero).map Bk.row, l.length = 2066 := fun l h => by
    obtain ⟨b, hb, rfl⟩ := List.mem_map.1 h
    rw [List.eq_of_mem_replicate hb]; exact hl
  have hfl := NM.flat_length (n := 2066) _ hrow
  rw [List.length_map, List.length_replicate] at hfl
  rcases Nat.lt_or_ge i (n * 2066) with h | h
  · have hb : i / 2066 < n := by omega
    have e := NM.flat_get (n := 2066) _ hrow (i / 2066) (by simpa using hb) (i % 2066) (Nat.mod_lt _ (by omega))
    rw [show i / 2066 * 2066 + i % 2066 = i by omega] at e
    have hm : i % 2066 < Bk.zero.row.length := by rw [hl]; exact Nat.mod_lt _ (by omega)
    rw [e]
    simp [madeCells, h, hl]
    rw [List.getElem?_eq_getElem hm]
    rfl
  · rw [List.getElem?_eq_none (l := (List.map Bk.row (List.replicate n Bk.zero)).flatten) (by omega)]
    simp [madeCells]
    omega
theorem make_any (N : Nat) (hN : N ≤ 40) (w : World) : (Instr.makeSlice 47 (.int .i64 (N : Int)) (.int .i64 (N : Int))).run Tryz.prog w = .ok (.slice (some ⟨w.heap.size, 0, none⟩) N N) (w.alloc (.cells ((List.replicate N Bk.zero).map Bk.row).flatten.toArray 85)) := by
  have h := infoBlock
  obtain ⟨i, hi, hh⟩ := Option.map_eq_some_iff.1 h
  have e1 : i.zero = some zBlock := congrArg (·.1) hh
  have e2 : i.size = 2066 := congrArg (·.2.1) hh
  have e3 : i.bytes = 2080 := congrArg (·.2.2) hh
  have := run_make (P := Tryz.prog) w 47 85 i zBlock Tryz.underlying47 hi e1 .i64 .i64 N N (by omega) (by omega) (by rw [e3]; omega) (by omega)
  rw [e2, Int.toNat_natCast, made] at this
  exact this
/-- the first j of N blocks are blank -/
def laidB (N j : Nat) : List Bk := List.replicate j Bk.blank ++ List.replicate (N - j) Bk.zero
theorem laidB_length {N j : Nat} (h : j ≤ N) : (laidB N j).length = N := by simp [laidB]; omega
theorem laidB_step {N j : Nat} (h : j < N) : wipeB (laidB N j) j 8 = laidB N (j + 1) := by
  have hb : j < (laidB N j).length := by rw [laidB_length (by omega)]; exact h
  have e : (laidB N j)[j] = Bk.zero := by
    have : (laidB N j)[j]? = some Bk.zero := by
      unfold laidB
      rw [List.getElem?_append_right (by simp), List.length_replicate, Nat.sub_self, List.getElem?_replicate, if_pos (by omega)]
    rw [List.getElem?_eq_getElem hb] at this
    exact Option.some.inj this
  unfold wipeB
  rw [getBk hb, e]
  unfold laidB
  rw [List.set_append_right _ _ (by simp), List.length_replicate, Nat.sub_self, show N - j = (N - (j + 1)) + 1 by omega, List.replicate_succ, List.set_cons_zero, List.replicate_succ', List.append_assoc]
  rfl
theorem laidB_all (N : Nat) : laidB N N = List.replicate N Bk.blank := by simp [laidB]
def Ch.blank (N : Nat) : Ch := ⟨List.replicate N Bk.blank, false, false, 0, fun _ => false, 0, fun _ => false, 0⟩
set_option maxHeartbeats 1000000 in
theorem index_nil (v : Value) (w : World) : Calls Tryz.prog 55 #[.slice none 0 0, v] w fun e w' => e = .returned (.int .i64 (-1)) ∧ w = w' := by
  go_enter Tryz.func55, Tryz.ntmps55
  go_wp2_with fail
  go_loopw [8] (fun i wr => i = .int .i64 0 ∧ wr = w) (fun i _ => 0)
  case atStart => exact ⟨rfl, rfl⟩
  case round =>
    obtain ⟨rfl, rfl⟩ := hrel
    go_wp2
    go_ret
    exact ⟨rfl, rfl⟩
theorem contains_nil (v : Value) (w : World) : Calls Tryz.prog 35 #[.slice none 0 0, v] w fun e w' => e = .returned (.bool false) ∧ w = w' := by
  have k1 := index_nil v w
  go_enter Tryz.func35, Tryz.ntmps35
  go_wp2_with fail
  ((with_reducible refine k1.mono ?_); rintro e w' ⟨rfl, rfl⟩)
  go_wp2
  go_ret
  exact ⟨rfl, rfl⟩
end Go.Proofs.YtaafelhjcmgkdaaGreatDoor

/- The contract of New with no bad block. Condition: 16 to 40 blocks. -/
namespace Go.Proofs.YtaafelhjcmgkdaaGreatDoor
open Go.RowKit
set_option maxRecDepth 100000 in
set_option maxHeartbeats 4000000 in
theorem new_any (N : Nat) (hN : 16 ≤ N ∧ N ≤ 40) (p : Nat) (s : NM.Pwr) (w : World) (hp : PPow w p s) :
    Calls Tryz.prog 19 #[.pointer (some ⟨p, 0, none⟩), .int .i64 (N : Int), .slice none 0 0] w fun e w' =>
      e = .returned (.tuple #[.pointer (some ⟨w.heap.size + 1, 0, none⟩), .int .i64 0]) ∧ PChip w' ⟨w.heap.size + 1, w.heap.size, p, none, none⟩ (Ch.blank N) ∧ Below w.heap.size w w' := by
  obtain ⟨hN1, hN2⟩ := hN
  have hmk := make_any N hN2
  have hpl := hp.lt
  have B0 : Hid (BG (w.alloc (.cells ((List.replicate N Bk.zero).map Bk.row).flatten.toArray 85)) w.heap.size (laidB N 0)) := Lib.hid (by
    refine ⟨?_, fun b hb => ?_⟩
    · have := Blk.new w 85 ((List.replicate N Bk.zero).map Bk.row).flatten
      simpa [laidB] using this
    · rw [List.eq_of_mem_replicate (show b ∈ List.replicate N Bk.zero by simpa [laidB] using hb)]
      exact Bk.zero_ok)
  have b0 : Below w.heap.size w (w.alloc (.cells ((List.replicate N Bk.zero).map Bk.row).flatten.toArray 85)) := (Below.refl _ _).alloc (Nat.le_refl _) _
  have hmf : ∀ (fn : Fn) (first cap : Array Value) (w : World), (Instr.makeFunc fn first cap).run Tryz.prog w = .ok (.func fn first cap) w := fun _ _ _ _ => rfl
  obtain ⟨cs0, hcs0⟩ : ∃ cs0, cs0 = ((List.replicate N Bk.zero).map Bk.row).flatten.toArray := ⟨_, rfl⟩
  rw [← hcs0] at hmk B0 b0
  clear hcs0 hp
  have kc := contains_nil
  go_enter Tryz.func19, Tryz.ntmps19
  go_wp2_with ((with_reducible refine (kc _ _).mono ?_); rintro e w' ⟨rfl, rfl⟩)
  have b1 := Lib.hid (b0.alloc (by simp) (.cells #[.pointer (some ⟨p, 0, none⟩), .slice (some ⟨w.heap.size, 0, none⟩) N N, .bool false, .bool false, .int .i64 0, .map none, .int .i64 0, .map none, .int .i64 0] 52))
  have B1 := Lib.hid (B0.out.alloc (.cells #[.pointer (some ⟨p, 0, none⟩), .slice (some ⟨w.heap.size, 0, none⟩) N N, .bool false, .bool false, .int .i64 0, .map none, .int .i64 0, .map none, .int .i64 0] 52))
  have C1 : Hid (Blk ((w.alloc (.cells cs0 85)).alloc (.cells #[.pointer (some ⟨p, 0, none⟩), .slice (some ⟨w.heap.size, 0, none⟩) N N, .bool false, .bool false, .int .i64 0, .map none, .int .i64 0, .map none, .int .i64 0] 52)) (w.heap.size + 1) 52 [.pointer (some ⟨p, 0, none⟩), .slice (some ⟨w.heap.size, 0, none⟩) N N, .bool false, .bool false, .int .i64 0, .map none, .int .i64 0, .map none, .int .i64 0]) := Lib.hid (by
    have := Blk.new (w.alloc (.cells cs0 85)) 52 [.pointer (some ⟨p, 0, none⟩), .slice (some ⟨w.heap.size, 0, none⟩) N N, .bool false, .bool false, .int .i64 0, .map none, .int .i64 0, .map none, .int .i64 0]
    rw [World.size_alloc] at this
    exact this)
  clear b0 B0 hmk kc
  go_loopw [32] (fun i wr => ∃ j : Nat, j ≤ N ∧ i = .int .i64 j ∧ BG wr w.heap.size (laidB N j) ∧ Blk wr (w.heap.size + 1) 52 [.pointer (some ⟨p, 0, none⟩), .slice (some ⟨w.heap.size, 0, none⟩) N N, .bool false, .bool false, .int .i64 0, .map none, .int .i64 0, .map none, .int .i64 0] ∧ Below w.heap.size w wr) (fun i _ => N - (intOf i).toNat)
  case atStart => exact ⟨0, by omega, rfl, B1.out, C1.out, b1.out⟩
  case round =>
    obtain ⟨j, hj, rfl, hB, hC, hb⟩ := hrel
    clear B1 C1 b1
    by_cases hlt : j < N
    · have c1 : wr.cell? ⟨w.heap.size + 1, 1, none⟩ = some (.slice (some ⟨w.heap.size, 0, none⟩) N N) := hC.cell 1
      have k1 := bwipe_any w.heap.size (laidB N j) j 8 (by rw [laidB_length hj]; exact hlt) (by omega) (by rw [laidB_length hj]; exact hN2) wr hB
      rw [laidB_step hlt, show ((8 : Nat) : Int) = 8 from rfl] at k1
      have HC := Lib.hid hC
      have Hb := Lib.hid hb
      clear hB hC hb
      go_wp2_with ((with_reducible refine k1.mono ?_); rintro e w5 ⟨rfl, B5, g5⟩)
      have C5 := HC.out.chg g5 (by omega)
      have b5 : Below w.heap.size w w5 := Hb.out.trans (g5.below (fun k e => by omega) Hb.out.size)
      have HB5 := Lib.hid B5
      clear k1 c1 g5 B5
      try (go_wp2_with fail)
      exact ⟨⟨j + 1, by omega, by go_num, HB5.out, C5, b5⟩, by simp [intOf]; omega⟩
    · obtain rfl : j = N := by omega
      go_wp2_with fail
      go_loopw [45] (fun i w5 => i = .int .i64 0 ∧ w5 = wr) (fun i _ => 0)
      case atStart => exact ⟨rfl, rfl⟩
      case round =>
        obtain ⟨rfl, rfl⟩ := hrel
        go_wp2_with fail
        go_ret2
        refine ⟨rfl, ⟨⟨.map none, .map none, ?_, .inl ⟨rfl, rfl, fun _ _ => rfl⟩, .inl ⟨rfl, rfl, fun _ _ => rfl⟩⟩, ?_, ?_, ?_, ?_, ?_, ?_, ?_, ?_⟩, hb⟩
        · unfold Ch.cells Ch.blank
          simp only [List.length_replicate]
          exact hC
        · unfold Ch.blank
          rw [laidB_all] at hB
          exact hB
        · unfold Ch.blank
          simp only [List.length_replicate]
          exact ⟨hN1, hN2⟩
        · show w.heap.size + 1 ≠ w.heap.size; omega
        · show p ≠ w.heap.size + 1; omega
        · show p ≠ w.heap.size; omega
        · intro b e; cases e
        · intro b e; cases e
        · intro b e; cases e
end Go.Proofs.YtaafelhjcmgkdaaGreatDoor

/- The law's page of a byte; the contracts of Put and Die. No condition but that the chip is there. -/
namespace Go.Proofs.YtaafelhjcmgkdaaGreatDoor
open Go.RowKit
/-- a result that is an array -/
theorem pret1 {fn : Func} {p : Tmp} {w : World} {g : Nat} {L : List UInt8} (h : fn.results = #[.cell p 54]) (tmps : Array Value) (hA : PArr w g L) (hp : tmps.getD p undef = .pointer (some ⟨g, 0, none⟩)) :
    (results fn tmps).run Tryz.prog w = .ok (.agg (cl L)) w := by
  have hp' : tmps[p]?.getD undef = .pointer (some ⟨g, 0, none⟩) := by simpa using hp
  simp [results, h, hp', asAddr, hA.load]
/-- the byte at place i of the page of b -/
def pbyte (b : UInt8) (i : Nat) : UInt8 := UInt8.ofNat (b.toNat + i * b.toNat)
def lpageN (b : UInt8) : Nat → List UInt8
  | 0 => pzeros
  | k + 1 => (lpageN b k).set k (pbyte b k)
def lpage (b : UInt8) : List UInt8 := lpageN b 258
theorem lpageN_length (b : UInt8) : ∀ k, (lpageN b k).length = 258
  | 0 => pzeros_length
  | k + 1 => by rw [lpageN, List.length_set, lpageN_length b k]
theorem lpage_length (b : UInt8) : (lpage b).length = 258 := lpageN_length b 258
theorem wrap_u8_nat (n : Nat) : IntKind.u8.wrap (n : Int) = ((UInt8.ofNat n).toNat : Int) := by
  rw [IntKind.wrap_u8, UInt8.toNat_ofNat']
  omega
theorem pbyte_wrap (b : UInt8) (i : Nat) (hi : i < 258) : ((b.toNat : Int) + wrap64 ((i : Int) * wrap64 (b.toNat : Int)) % 256) % 256 = ((pbyte b i).toNat : Int) := by
  have hb := b.toNat_lt
  have hm : i * b.toNat ≤ 257 * 255 := Nat.mul_le_mul (by omega) (by omega)
  have e1 : wrap64 (b.toNat : Int) = (b.toNat : Int) := by unfold wrap64; omega
  rw [e1]
  have e3 : (i : Int) * (b.toNat : Int) = ((i * b.toNat : Nat) : Int) := by push_cast; rfl
  rw [e3]
  obtain ⟨m, hmm⟩ : ∃ m, m = i * b.toNat := ⟨_, rfl⟩
  unfold pbyte
  rw [← hmm, UInt8.toNat_ofNat'] at *
  unfold wrap64
  omega
def Ch.setOut (S : Ch) (o : Bool) : Ch := { S with out := o }
def Ch.setDead (S : Ch) : Ch := { S with dead := true }
end Go.Proofs.YtaafelhjcmgkdaaGreatDoor

