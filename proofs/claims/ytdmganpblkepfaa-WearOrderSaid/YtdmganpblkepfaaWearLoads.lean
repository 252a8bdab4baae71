/- Layer 10: the contract of loads; the argument that is a slice of loads. No condition but that they are there. -/
import Derived.Test.YtdmganpblkepfaaWearLeast
import Derived.Deep.Slices
import Derived.Deep.Fields
import Derived.ChangeSame
namespace Go.Proofs.Ytdmganpblkepfaa
open Go.RowKit WM Go.ChangeShapes Go.WideShapes Go.ChangeAt
theorem rows_shape {w : World} {base s : Nat} {e : TypeId} {v : Value} {n : Nat} {xs : List Value} (h : w.ownsRow base e s v n xs) : ∃ A c, v = .slice A n c ∧ n ≤ c ∧ c ≤ maxLen := by
  rcases h.2 with ⟨rfl, h0⟩ | ⟨g, cap, cur, rfl, _, _, hn, hcap, _⟩
  · exact ⟨none, 0, by rw [h0], by omega, by simp [maxLen]⟩
  · exact ⟨_, cap, rfl, hn, hcap⟩
theorem rows_row {w : World} {base s : Nat} {e : TypeId} {A : Option Addr} {n c : Nat} {xs : List Value} (h : w.ownsRow base e s (.slice A n c) n xs) : Row w w.heap.size A xs := fun j u hu => by
  have hlt := h.lt
  have hc : ∀ {g : Nat}, (Value.slice A n c).ownBlock = some g → ∀ j u, xs[j]? = some u → w.cell? ((⟨g, 0, none⟩ : Addr).add j) = some u := fun hg => World.ownsRow.cells h hg
  have h1 := h.1
  rcases h.2 with ⟨hv, h0⟩ | ⟨g, cap, cur, hv, _, _, _, _⟩
  · have := get_lt hu
    rw [h1, h0] at this
    omega
  · cases hv
    exact ⟨_, rfl, (hlt g rfl).2, hc rfl j u hu⟩
theorem infoL : (Try.prog.info? 87).map (fun i => (i.zero, i.size, i.bytes)) = some (some (.agg #[.int .i64 0, .int .u64 0, .int .u64 0, .slice none 0 0, .int .i64 0]), 5, 56) := by kernel_rfl
theorem run_zeroR (w : World) : (zeroValue 65).run Try.prog w = .ok (.agg #[.int .u64 0, .int .u64 0, .int .i64 0, .int .i64 0]) w := by kernel_rfl
set_option maxRecDepth 100000 in
set_option maxHeartbeats 8000000 in
theorem loads_any (A : Option Addr) (L : List LV) (c : Nat) (w : World) (B : Nat) (hB : B ≤ w.heap.size) (hr : Row w B A (L.flatMap rrow)) (hl : L.length ≤ 1000) :
    Calls Try.prog 29 #[.slice A L.length c] w fun e w' => ∃ X c', e = .returned (.slice X L.length c') ∧ w'.ownsRow w.heap.size 87 5 (.slice X L.length c') L.length (L.flatMap mrow) ∧ Below w.heap.size w w' := by
  have HR := Lib.hid hr
  obtain ⟨ti, hi, hz, hs, hby⟩ := info_parts infoL
  clear hr
  have hb0 := Lib.hid ((Below.refl w.heap.size w).alloc (Nat.le_refl _) (.cells #[] 87))
  have O0 := Lib.hid (World.ownsRow_made (base := w.heap.size) (e := 87) (size := 5) w #[] 0 (Nat.le_refl _) (by simp [maxLen]) rfl)
  go_enter Try.func29, Try.ntmps29
  go_wp2_with fail
  go_loopw [3, 9] (fun v i wr => ∃ k : Nat, k ≤ L.length ∧ i = .int .i64 k ∧ ∃ X c', v = .slice X k c' ∧ Hid (wr.ownsRow w.heap.size 87 5 (.slice X k c') k ((L.take k).flatMap mrow)) ∧ Hid (Below w.heap.size w wr)) (fun _ i _ => L.length - (intOf i).toNat)
  case atStart => exact ⟨0, Nat.zero_le _, rfl, _, _, rfl, Lib.hid O0.out, hb0⟩
  case round =>
    obtain ⟨k, hk, rfl, X, c', rfl, hO, hb⟩ := hrel
    by_cases hlt : k < L.length
    · obtain ⟨a, rfl, hab, hck⟩ := HR.out.elem rrow_len (by omega) (at_get hlt)
      have HT := Lib.hid (take_snoc L (at_get hlt))
      obtain ⟨x, hx⟩ : ∃ x, x = at_ L k := ⟨_, rfl⟩
      rw [← hx] at hck HT
      clear hx
      have HCK := Lib.hid (show ∀ j u, ([.int .u64 (x.seq : Int), .int .u64 (x.wear : Int), .int .i64 x.block, .int .i64 x.counts] : List Value)[j]? = some u → wr.cell? ((a.add (k * 4)).add j) = some u from fun j u hu => (hb.out.cell (p := (a.add (k * 4)).add j) (by rw [add_block, add_block]; omega)).trans (hck j u hu))
      clear hck
      have W1 := Lib.hid (hb.out.alloc hb.out.size (.cells #[.int .u64 (x.seq : Int), .int .u64 (x.wear : Int), .int .i64 x.block, .int .i64 x.counts] 65))
      have W2 := Lib.hid (W1.out.alloc W1.out.size (.cells #[.int .i64 x.block, .int .u64 (x.seq : Int), .int .u64 (x.wear : Int), .slice none 0 0, .int .i64 x.counts] 87))
      have O2 := Lib.hid ((hO.out.alloc (.cells #[.int .u64 (x.seq : Int), .int .u64 (x.wear : Int), .int .i64 x.block, .int .i64 x.counts] 65)).alloc (.cells #[.int .i64 x.block, .int .u64 (x.seq : Int), .int .u64 (x.wear : Int), .slice none 0 0, .int .i64 x.counts] 87))
      have hnew : ∀ j u, (mrow x)[j]? = some u → ((wr.alloc (.cells #[.int .u64 (x.seq : Int), .int .u64 (x.wear : Int), .int .i64 x.block, .int .i64 x.counts] 65)).alloc (.cells #[.int .i64 x.block, .int .u64 (x.seq : Int), .int .u64 (x.wear : Int), .slice none 0 0, .int .i64 x.counts] 87)).cell? ((⟨wr.heap.size + 1, 0, none⟩ : Addr).add j) = some u := fun j u hu => by
        have hB : Blk ((wr.alloc (.cells #[.int .u64 (x.seq : Int), .int .u64 (x.wear : Int), .int .i64 x.block, .int .i64 x.counts] 65)).alloc (.cells #[.int .i64 x.block, .int .u64 (x.seq : Int), .int .u64 (x.wear : Int), .slice none 0 0, .int .i64 x.counts] 87)) (wr.heap.size + 1) 87 (mrow x) := by
          have h := heap_alloc_new (wr.alloc (.cells #[.int .u64 (x.seq : Int), .int .u64 (x.wear : Int), .int .i64 x.block, .int .i64 x.counts] 65)) (.cells #[.int .i64 x.block, .int .u64 (x.seq : Int), .int .u64 (x.wear : Int), .slice none 0 0, .int .i64 x.counts] 87)
          rw [World.size_alloc] at h
          exact h
        rw [show (⟨wr.heap.size + 1, 0, none⟩ : Addr).add j = ⟨wr.heap.size + 1, j, none⟩ by unfold Addr.add; split <;> simp_all, hB.cell]
        exact hu
      have HNW := Lib.hid hnew
      clear hnew
      go_wp2_with (first
        | (with_reducible refine wpl_cells (q := a.add (k * 4)) (row := [.int .u64 (x.seq : Int), .int .u64 (x.wear : Int), .int .i64 x.block, .int .i64 x.counts]) aggR sizeR (.tmp 11) rfl rfl rfl rfl HCK.out ?_)
        | (at_builtin; refine wpList_append_own _ rfl (.tmp 13) (.tmp 24) 59 rfl w.heap.size 87 ti _ 5 56 Try.underlying59 hi hz hs hby rfl (by omega) _ k _ rfl O2.out _ 1 _ (mrow x) rfl rfl HNW.out (mrow_one x) (by simp only [maxLen]; omega) (by omega) W2.out.size ?_; intro v9 w9 O9 g9 e9; clear e9; obtain ⟨A9, c9, rfl, _, _⟩ := rows_shape O9; have Q9 := Lib.hid O9; have T9 := Lib.hid (W2.out.grown g9 W2.out.size (fun q e => (O2.out.lt q e).1)); clear O9 g9))
      go_roundw
      case rel => exact ⟨k + 1, by omega, by go_num, A9, c9, rfl, Lib.hid (by rw [HT.out, List.flatMap_append]; simpa using Q9.out), T9⟩
      case measure => simp [intOf]; omega
    · obtain rfl : k = L.length := by omega
      have hO2 := hO.out
      rw [List.take_length] at hO2
      have Q := Lib.hid hO2
      clear hO2 hO
      go_wp2
      go_ret
      exact ⟨X, c', rfl, Q.out, hb.out⟩
/-- v is a slice of the loads L -/
def Loads (w : World) (B : Nat) (v : Value) (L : List LV) : Prop := ∃ A c, v = .slice A L.length c ∧ Row w B A (L.flatMap rrow) ∧ ∀ x ∈ L, LV.ok x
end Go.Proofs.Ytdmganpblkepfaa
