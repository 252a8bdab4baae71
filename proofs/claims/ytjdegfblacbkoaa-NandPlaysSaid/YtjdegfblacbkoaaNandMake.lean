/- The contract of New with no bad block. Condition: 16 to 40 blocks. -/
import Derived.Test.YtjdegfblacbkoaaNandNew
namespace Go.Proofs.Ytjdegfblacbkoaa
open Go.RowKit
set_option maxRecDepth 100000 in
set_option maxHeartbeats 4000000 in
theorem new_any (N : Nat) (hN : 16 ≤ N ∧ N ≤ 40) (p : Nat) (s : NM.Pwr) (w : World) (hp : PPow w p s) :
    Calls Try.prog 9 #[.pointer (some ⟨p, 0, none⟩), .int .i64 (N : Int), .slice none 0 0] w fun e w' =>
      e = .returned (.tuple #[.pointer (some ⟨w.heap.size + 1, 0, none⟩), .int .i64 0]) ∧ PChip w' ⟨w.heap.size + 1, w.heap.size, p, none, none⟩ (Ch.blank N) ∧ Below w.heap.size w w' := by
  obtain ⟨hN1, hN2⟩ := hN
  have hmk := make_any N hN2
  have hpl := hp.lt
  have B0 : Hid (BG (w.alloc (.cells ((List.replicate N Bk.zero).map Bk.row).flatten.toArray 73)) w.heap.size (laidB N 0)) := Lib.hid (by
    refine ⟨?_, fun b hb => ?_⟩
    · have := Blk.new w 73 ((List.replicate N Bk.zero).map Bk.row).flatten
      simpa [laidB] using this
    · rw [List.eq_of_mem_replicate (show b ∈ List.replicate N Bk.zero by simpa [laidB] using hb)]
      exact Bk.zero_ok)
  have b0 : Below w.heap.size w (w.alloc (.cells ((List.replicate N Bk.zero).map Bk.row).flatten.toArray 73)) := (Below.refl _ _).alloc (Nat.le_refl _) _
  have hmf : ∀ (fn : Fn) (first cap : Array Value) (w : World), (Instr.makeFunc fn first cap).run Try.prog w = .ok (.func fn first cap) w := fun _ _ _ _ => rfl
  obtain ⟨cs0, hcs0⟩ : ∃ cs0, cs0 = ((List.replicate N Bk.zero).map Bk.row).flatten.toArray := ⟨_, rfl⟩
  rw [← hcs0] at hmk B0 b0
  clear hcs0 hp
  have kc := contains_nil
  go_enter Try.func9, Try.ntmps9
  go_wp2_with ((with_reducible refine (kc _ _).mono ?_); rintro e w' ⟨rfl, rfl⟩)
  have b1 := Lib.hid (b0.alloc (by simp) (.cells #[.pointer (some ⟨p, 0, none⟩), .slice (some ⟨w.heap.size, 0, none⟩) N N, .bool false, .bool false, .int .i64 0, .map none, .int .i64 0, .map none, .int .i64 0] 46))
  have B1 := Lib.hid (B0.out.alloc (.cells #[.pointer (some ⟨p, 0, none⟩), .slice (some ⟨w.heap.size, 0, none⟩) N N, .bool false, .bool false, .int .i64 0, .map none, .int .i64 0, .map none, .int .i64 0] 46))
  have C1 : Hid (Blk ((w.alloc (.cells cs0 73)).alloc (.cells #[.pointer (some ⟨p, 0, none⟩), .slice (some ⟨w.heap.size, 0, none⟩) N N, .bool false, .bool false, .int .i64 0, .map none, .int .i64 0, .map none, .int .i64 0] 46)) (w.heap.size + 1) 46 [.pointer (some ⟨p, 0, none⟩), .slice (some ⟨w.heap.size, 0, none⟩) N N, .bool false, .bool false, .int .i64 0, .map none, .int .i64 0, .map none, .int .i64 0]) := Lib.hid (by
    have := Blk.new (w.alloc (.cells cs0 73)) 46 [.pointer (some ⟨p, 0, none⟩), .slice (some ⟨w.heap.size, 0, none⟩) N N, .bool false, .bool false, .int .i64 0, .map none, .int .i64 0, .map none, .int .i64 0]
    rw [World.size_alloc] at this
    exact this)
  clear b0 B0 hmk kc
  go_loopw [32] (fun i wr => ∃ j : Nat, j ≤ N ∧ i = .int .i64 j ∧ BG wr w.heap.size (laidB N j) ∧ Blk wr (w.heap.size + 1) 46 [.pointer (some ⟨p, 0, none⟩), .slice (some ⟨w.heap.size, 0, none⟩) N N, .bool false, .bool false, .int .i64 0, .map none, .int .i64 0, .map none, .int .i64 0] ∧ Below w.heap.size w wr) (fun i _ => N - (intOf i).toNat)
  case atStart => exact ⟨0, by omega, rfl, B1.out, C1.out, b1.out⟩
  case round =>
    obtain ⟨j, hj, rfl, hB, hC, hb⟩ := hrel
    clear B1 C1 b1
    by_cases hlt : j < N
    · have c1 : wr.cell? ⟨w.heap.size + 1, 1, none⟩ = some (.slice (some ⟨w.heap.size, 0, none⟩) N N) := hC.cell 1
      have k1 := bwipe_any w.heap.size (laidB N j) j 8 (by rw [laidB_length hj]; exact hlt) (by omega) (by rw [laidB_length hj]; exact hN2) wr hB
      rw [laidB_step hlt, show ((8 : Nat) : Int) = 8 from rfl] at k1
      have HC := Lib.hid hC
      have Hb := Lib.hid hb
      clear hB hC hb
      go_wp2_with ((with_reducible refine k1.mono ?_); rintro e w5 ⟨rfl, B5, g5⟩)
      have C5 := HC.out.chg g5 (by omega)
      have b5 : Below w.heap.size w w5 := Hb.out.trans (g5.below (fun k e => by omega) Hb.out.size)
      have HB5 := Lib.hid B5
      clear k1 c1 g5 B5
      try (go_wp2_with fail)
      exact ⟨⟨j + 1, by omega, by go_num, HB5.out, C5, b5⟩, by simp [intOf]; omega⟩
    · obtain rfl : j = N := by omega
      go_wp2_with fail
      go_loopw [45] (fun i w5 => i = .int .i64 0 ∧ w5 = wr) (fun i _ => 0)
      case atStart => exact ⟨rfl, rfl⟩
      case round =>
        obtain ⟨rfl, rfl⟩ := hrel
        go_wp2_with fail
        go_ret2
        refine ⟨rfl, ⟨⟨.map none, .map none, ?_, .inl ⟨rfl, rfl, fun _ _ => rfl⟩, .inl ⟨rfl, rfl, fun _ _ => rfl⟩⟩, ?_, ?_, ?_, ?_, ?_, ?_, ?_, ?_⟩, hb⟩
        · unfold Ch.cells Ch.blank
          simp only [List.length_replicate]
          exact hC
        · unfold Ch.blank
          rw [laidB_all] at hB
          exact hB
        · unfold Ch.blank
          simp only [List.length_replicate]
          exact ⟨hN1, hN2⟩
        · show w.heap.size + 1 ≠ w.heap.size; omega
        · show p ≠ w.heap.size + 1; omega
        · show p ≠ w.heap.size; omega
        · intro b e; cases e
        · intro b e; cases e
        · intro b e; cases e
end Go.Proofs.Ytjdegfblacbkoaa
