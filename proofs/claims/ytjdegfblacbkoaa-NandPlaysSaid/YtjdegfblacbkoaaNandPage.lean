/- The law's page of a byte; the contracts of Put and Die. No condition but that the chip is there. -/
import Derived.Test.YtjdegfblacbkoaaNandEr
namespace Go.Proofs.Ytjdegfblacbkoaa
open Go.RowKit
/-- a result that is an array -/
theorem pret1 {fn : Func} {p : Tmp} {w : World} {g : Nat} {L : List UInt8} (h : fn.results = #[.cell p 55]) (tmps : Array Value) (hA : PArr w g L) (hp : tmps.getD p undef = .pointer (some ⟨g, 0, none⟩)) :
    (results fn tmps).run Try.prog w = .ok (.agg (cl L)) w := by
  have hp' : tmps[p]?.getD undef = .pointer (some ⟨g, 0, none⟩) := by simpa using hp
  simp [results, h, hp', asAddr, hA.load]
/-- the byte at place i of the page of b -/
def pbyte (b : UInt8) (i : Nat) : UInt8 := UInt8.ofNat (b.toNat + i * b.toNat)
def lpageN (b : UInt8) : Nat → List UInt8
  | 0 => pzeros
  | k + 1 => (lpageN b k).set k (pbyte b k)
def lpage (b : UInt8) : List UInt8 := lpageN b 258
theorem lpageN_length (b : UInt8) : ∀ k, (lpageN b k).length = 258
  | 0 => pzeros_length
  | k + 1 => by rw [lpageN, List.length_set, lpageN_length b k]
theorem lpage_length (b : UInt8) : (lpage b).length = 258 := lpageN_length b 258
theorem wrap_u8_nat (n : Nat) : IntKind.u8.wrap (n : Int) = ((UInt8.ofNat n).toNat : Int) := by
  rw [IntKind.wrap_u8, UInt8.toNat_ofNat']
  omega
theorem pbyte_wrap (b : UInt8) (i : Nat) (hi : i < 258) : ((b.toNat : Int) + wrap64 ((i : Int) * wrap64 (b.toNat : Int)) % 256) % 256 = ((pbyte b i).toNat : Int) := by
  have hb := b.toNat_lt
  have hm : i * b.toNat ≤ 257 * 255 := Nat.mul_le_mul (by omega) (by omega)
  have e1 : wrap64 (b.toNat : Int) = (b.toNat : Int) := by unfold wrap64; omega
  rw [e1]
  have e3 : (i : Int) * (b.toNat : Int) = ((i * b.toNat : Nat) : Int) := by push_cast; rfl
  rw [e3]
  obtain ⟨m, hmm⟩ : ∃ m, m = i * b.toNat := ⟨_, rfl⟩
  unfold pbyte
  rw [← hmm, UInt8.toNat_ofNat'] at *
  unfold wrap64
  omega
set_option maxRecDepth 100000 in
set_option maxHeartbeats 4000000 in
theorem lpage_any (b : UInt8) (w : World) : Calls Try.prog 22 #[.int .u8 ((b.toNat : Nat) : Int)] w fun e w' => e = .returned (.agg (cl (lpage b))) ∧ Below w.heap.size w w' := by
  have z := zeroPage
  have R0 := parr_one w pzeros_length pzeros
  have P0 := parr_two w pzeros pzeros_length
  have hb0 := Lib.hid (phb_two w pzeros pzeros)
  go_enter Try.func22, Try.ntmps22
  go_wp2_with (first | (with_reducible refine wpl_pstore (.tmp 3) (.tmp 5) rfl rfl P0.out rfl pzeros_length rfl ?_; intro w1 P1 g1 e1))
  have R1 := Lib.hid (R0.out.grown g1 (Nat.ne_of_lt (Nat.lt_succ_self _)))
  have b1 : Hid (Below w.heap.size w w1) := Lib.hid (hb0.out.grown g1 (by simp; omega) (fun k e => by cases e; omega))
  have HP1 := Lib.hid P1
  clear g1 e1 P1 hb0 R0 P0
  go_loopw [6] (fun i wr => ∃ j : Nat, j ≤ 258 ∧ i = .int .i64 j ∧ PArr wr w.heap.size pzeros ∧ PArr wr (w.heap.size + 1) (lpageN b j) ∧ Below w.heap.size w wr) (fun i _ => 258 - (intOf i).toNat)
  case atStart => exact ⟨0, by omega, rfl, R1.out, HP1.out, b1.out⟩
  case round =>
    obtain ⟨j, hj, rfl, hR, hP, hb⟩ := hrel
    clear R1 HP1 b1
    by_cases hlt : j < 258
    · have hx := pbyte_wrap b j hlt
      have hP' := Lib.hid hP
      have hR' := Lib.hid hR
      have hb' := Lib.hid hb
      clear hP hR hb
      go_wp2_with (first | (with_reducible refine wpl_pput (.tmp 17) (.tmp 16) rfl rfl hP'.out j hlt (pbyte b j) rfl (by rw [← hx]; kernel_rfl) ?_; intro w5 P5 g5))
      have R5 := Lib.hid (hR'.out.grown g5 (Nat.ne_of_lt (Nat.lt_succ_self _)))
      have b5 := Lib.hid (hb'.out.grown g5 (by have := hR'.out.lt; omega) (fun k e => by cases e; omega))
      have HP5 : Hid (PArr w5 (w.heap.size + 1) (lpageN b (j + 1))) := Lib.hid P5
      clear P5 g5
      try (go_wp2_with fail)
      exact ⟨⟨j + 1, by omega, by go_num, R5.out, HP5.out, b5.out⟩, by simp [intOf]; omega⟩
    · obtain rfl : j = 258 := by omega
      have hgr := Lib.hid hb
      clear hb
      go_wp2_with (first | (with_reducible refine wpl_pload (.tmp 3) rfl rfl hP rfl ?_) | (with_reducible refine wpl_pstore (.tmp 2) (.tmp 19) rfl rfl hR rfl (lpageN_length b 258) rfl ?_; intro w4 R4 g4 e4))
      refine bodyPost_ret (pret1 rfl _ R4 rfl) rfl ?_
      exact ⟨rfl, hgr.out.grown g4 (by have := hR.lt; omega) (fun k e => by cases e; omega)⟩
def Ch.setOut (S : Ch) (o : Bool) : Ch := { S with out := o }
def Ch.setDead (S : Ch) : Ch := { S with dead := true }
set_option maxHeartbeats 1000000 in
theorem put_any (a : At) (S : Ch) (b : Bool) (w : World) (h : PChip w a S) : Calls Try.prog 36 #[.pointer (some ⟨a.c, 0, none⟩), .bool b] w fun e w' => e = .returned (.tuple #[]) ∧ PChip w' a (S.setOut !b) ∧ Chg w w' (fun j => j = a.c) := by
  obtain ⟨⟨vp, ve, h1, h2, h3⟩, hbg, r1, r3, r4, r5, r6, r7, r8⟩ := h
  have H2 := Lib.hid h2
  have H3 := Lib.hid h3
  have HB := Lib.hid hbg
  have hset : (S.cells a vp ve).set 2 (.bool (!b)) = (S.setOut !b).cells a vp ve := rfl
  have hlt : 2 < (S.cells a vp ve).length := by show 2 < 9; omega
  clear h2 h3 hbg
  go_enter Try.func36, Try.ntmps36
  go_wp2_with (with_reducible refine wpl_blk_bool (!b) bool_one (.tmp 8) (.tmp 6) rfl rfl h1 2 hlt rfl rfl _ hset ?_; intro w1 B1 g1 e1)
  go_end0
  have hc : Chg w w1 (fun j => j = a.c) := Chg.of_grown g1 (fun k e => Option.some.inj e)
  exact ⟨rfl, ⟨⟨vp, ve, B1, H2.out.chg hc (fun b e => (r6 b e).1), H3.out.chg hc (fun b e => (r7 b e).1)⟩, HB.out.chg hc (fun e => r3 e.symm), r1, r3, r4, r5, r6, r7, r8⟩, hc⟩
set_option maxHeartbeats 1000000 in
theorem die_any (a : At) (S : Ch) (w : World) (h : PChip w a S) : Calls Try.prog 37 #[.pointer (some ⟨a.c, 0, none⟩)] w fun e w' => e = .returned (.tuple #[]) ∧ PChip w' a S.setDead ∧ Chg w w' (fun j => j = a.c) := by
  obtain ⟨⟨vp, ve, h1, h2, h3⟩, hbg, r1, r3, r4, r5, r6, r7, r8⟩ := h
  have H2 := Lib.hid h2
  have H3 := Lib.hid h3
  have HB := Lib.hid hbg
  have hset : (S.cells a vp ve).set 3 (.bool true) = S.setDead.cells a vp ve := rfl
  have hlt : 3 < (S.cells a vp ve).length := by show 3 < 9; omega
  clear h2 h3 hbg
  go_enter Try.func37, Try.ntmps37
  go_wp2_with (with_reducible refine wpl_blk_bool true bool_one (.tmp 4) (.const (.bool true)) rfl rfl h1 3 hlt rfl rfl _ hset ?_; intro w1 B1 g1 e1)
  go_end0
  have hc : Chg w w1 (fun j => j = a.c) := Chg.of_grown g1 (fun k e => Option.some.inj e)
  exact ⟨rfl, ⟨⟨vp, ve, B1, H2.out.chg hc (fun b e => (r6 b e).1), H3.out.chg hc (fun b e => (r7 b e).1)⟩, HB.out.chg hc (fun e => r3 e.symm), r1, r3, r4, r5, r6, r7, r8⟩, hc⟩
end Go.Proofs.Ytjdegfblacbkoaa
