/- The contracts of pack's Reader. No condition. -/
import Derived.Test.YtdmganpblkepfaaPackJoin
namespace Go.Proofs.Ytdmganpblkepfaa
open Go.RowKit

/-- the block g is a Reader: l is left of its bytes, which lie in block h; bad tells whether too much was read -/
def Rd (w : World) (g h : Nat) (l : List UInt8) (bad : Bool) : Prop :=
  g ≠ h ∧ ∃ A n c, n = l.length ∧ n ≤ c ∧ c ≤ maxLen ∧ w.heap[g]? = some (.cells #[.slice A n c, .bool bad] 94 (0, 0)) ∧ ∀ j u, (bv l)[j]? = some u → ∃ a, A = some a ∧ a.block = h ∧ w.cell? (a.add j) = some u

theorem blk_cell {w : World} {g : Nat} {cs : Array Value} {t : TypeId} (h : w.heap[g]? = some (.cells cs t (0, 0))) (i : Nat) : w.cell? ⟨g, i, none⟩ = cs[i]? := cell_of_row w g i cs t (0, 0) h
theorem blk_free {w : World} {g : Nat} {cs : Array Value} {t : TypeId} (h : w.heap[g]? = some (.cells cs t (0, 0))) (i : Nat) : w.frozen? ⟨g, i, none⟩ = false := by simp [World.frozen?, h]
theorem blk_set {w : World} {g : Nat} {cs : Array Value} {t : TypeId} (h : w.heap[g]? = some (.cells cs t (0, 0))) (i : Nat) (u : Value) : (w.setCell ⟨g, i, none⟩ u).heap[g]? = some (.cells (cs.setIfInBounds i u) t (0, 0)) := by
  simp [World.setCell, Array.getElem?_modify, h]
theorem blk_lt {w : World} {g : Nat} {o : Obj} (h : w.heap[g]? = some o) : g < w.heap.size := by
  rcases Nat.lt_or_ge g w.heap.size with h' | h'
  · exact h'
  · rw [Array.getElem?_eq_none h'] at h; cases h

theorem only_set (w : World) (p : Addr) (u : Value) : w.grownBy (w.setCell p u) (some p.block) :=
  ⟨rfl, rfl, rfl, by simp [World.setCell], fun k _ hk => Below.heap_setCell w p u k fun e => hk (by rw [e])⟩
theorem only_trans {a b c : World} {row : Option Nat} (h : a.grownBy b row) (k : b.grownBy c row) : a.grownBy c row := h.trans k
theorem only_alloc {a w : World} {row : Option Nat} (h : a.grownBy w row) (o : Obj) : a.grownBy (w.alloc o) row :=
  ⟨h.os, h.tape, h.output, Nat.le_trans h.size (by simp), fun k hk hne => (Below.heap_alloc w o k (Nat.lt_of_lt_of_le hk h.size)).trans (h.block k hk hne)⟩
theorem far_row {w w' : World} {A : Option Addr} {h : Nat} {xs : List Value} (hw : w'.heap[h]? = w.heap[h]?) (hrow : ∀ (j : Nat) (u : Value), xs[j]? = some u → ∃ a, A = some a ∧ a.block = h ∧ w.cell? (a.add j) = some u) :
    ∀ (j : Nat) (u : Value), xs[j]? = some u → ∃ a, A = some a ∧ a.block = h ∧ w'.cell? (a.add j) = some u := fun j u hu => by
  obtain ⟨a, e, hb, hc⟩ := hrow j u hu
  exact ⟨a, e, hb, (World.cell?_of_block (w := w) (w' := w') (a := a.add j) (by rw [add_block, hb]; exact hw)).trans hc⟩
theorem row_take {w : World} {A : Option Addr} {h n : Nat} {l : List UInt8} (hrow : ∀ (j : Nat) (u : Value), (bv l)[j]? = some u → ∃ a, A = some a ∧ a.block = h ∧ w.cell? (a.add j) = some u) :
    ∀ (j : Nat) (u : Value), (bv (l.take n))[j]? = some u → ∃ a, A = some a ∧ a.block = h ∧ w.cell? (a.add j) = some u := fun j u hu => by
  refine hrow j u ?_
  have hj := get_lt hu
  rw [bv_length, List.length_take] at hj
  rw [← hu]
  simp [bv, List.getElem?_take]
  omega
theorem row_drop {w : World} {A : Option Addr} {h n : Nat} {l : List UInt8} (hrow : ∀ (j : Nat) (u : Value), (bv l)[j]? = some u → ∃ a, A = some a ∧ a.block = h ∧ w.cell? (a.add j) = some u) :
    ∀ (j : Nat) (u : Value), (bv (l.drop n))[j]? = some u → ∃ a, A.map (fun x => x.add n) = some a ∧ a.block = h ∧ w.cell? (a.add j) = some u := fun j u hu => by
  obtain ⟨a, e, hb, hc⟩ := hrow (n + j) u (by rw [← hu]; simp [bv])
  exact ⟨a.add n, by rw [e]; rfl, by rw [add_block]; exact hb, by rw [add_twice]; exact hc⟩
theorem rd_set {w : World} {g h m c : Nat} {A A' : Option Addr} {n' c' : Nat} {l' : List UInt8} {bad : Bool} (hgh : g ≠ h) (hB : w.heap[g]? = some (.cells #[.slice A m c, .bool bad] 94 (0, 0))) (h1 : n' = l'.length) (h2 : n' ≤ c') (h3 : c' ≤ maxLen)
    (hrow : ∀ (j : Nat) (u : Value), (bv l')[j]? = some u → ∃ a, A' = some a ∧ a.block = h ∧ w.cell? (a.add j) = some u) : Rd (w.setCell ⟨g, 0, none⟩ (.slice A' n' c')) g h l' bad := by
  refine ⟨hgh, A', n', c', h1, h2, h3, by rw [blk_set hB]; rfl, far_row ?_ hrow⟩
  exact Below.heap_setCell w _ _ h (fun e => hgh e.symm)

set_option maxHeartbeats 1000000 in
theorem take_yes (g h : Nat) (l : List UInt8) (bad : Bool) (n : Nat) (w : World) (hr : Rd w g h l bad) (hn : n ≤ l.length) :
    Calls Try.prog 52 #[.pointer (some ⟨g, 0, none⟩), .int .i64 (n : Int)] w fun e w' => ∃ A c, e = .returned (.slice A n c) ∧ n ≤ c ∧ c ≤ maxLen ∧ (∀ j u, (bv (l.take n))[j]? = some u → ∃ a, A = some a ∧ a.block = h ∧ w'.cell? (a.add j) = some u) ∧ Rd w' g h (l.drop n) bad ∧ w.grownBy w' (some g) := by
  obtain ⟨hgh, A, m, c, hm, hmc, hcm, hblk, hrow⟩ := hr
  have c0 := blk_cell hblk 0
  have c1 := blk_cell hblk 1
  have f0 := blk_free hblk 0
  have f1 := blk_free hblk 1
  have hnm : n ≤ m := by omega
  unfold maxLen at hcm
  have HM := Lib.hid hm
  have HR := Lib.hid hrow
  have HB := Lib.hid hblk
  clear hm hrow hblk
  simp at c0 c1
  go_enter Try.func52, Try.ntmps52
  go_wp2
  all_goals
    go_ret
    refine ⟨A, _, rfl, by omega, by simp [maxLen]; omega, far_row (Below.heap_setCell w _ _ _ (fun e => hgh e.symm)) (row_take HR.out), ?_, only_set w _ _⟩
    first
      | exact rd_set hgh HB.out (by rw [List.length_drop, ← HM.out]) (by omega) (by simp [maxLen]; omega) (row_drop HR.out)
      | exact rd_set hgh HB.out (by rw [List.length_drop, ← HM.out]) (by omega) (by simp [maxLen]) (by
          have e : l.drop n = [] := List.drop_of_length_le (by have := HM.out; omega)
          rw [e]; intro j u hu; simp [bv] at hu)

set_option maxHeartbeats 1000000 in
theorem take_no (g h : Nat) (l : List UInt8) (bad : Bool) (n : Nat) (w : World) (hr : Rd w g h l bad) (hn : l.length < n) :
    Calls Try.prog 52 #[.pointer (some ⟨g, 0, none⟩), .int .i64 (n : Int)] w fun e w' => e = .returned (.slice none 0 0) ∧ Rd w' g h [] true ∧ w.grownBy w' (some g) := by
  obtain ⟨hgh, A, m, c, hm, hmc, hcm, hblk, hrow⟩ := hr
  have c0 := blk_cell hblk 0
  have c1 := blk_cell hblk 1
  have f0 := blk_free hblk 0
  have f1 := blk_free hblk 1
  have hnm : m < n := by omega
  unfold maxLen at hcm
  have HM := Lib.hid hm
  have HB := Lib.hid hblk
  clear hm hrow hblk
  simp at c0 c1
  have c1' : (w.setCell ⟨g, 0, none⟩ (.slice none 0 0)).cell? ⟨g, 1, none⟩ = some (.bool bad) := by
    rw [blk_cell (blk_set HB.out 0 (.slice none 0 0)) 1]; rfl
  have f1' : (w.setCell ⟨g, 0, none⟩ (.slice none 0 0)).frozen? ⟨g, 1, none⟩ = false := blk_free (blk_set HB.out 0 (.slice none 0 0)) 1
  go_enter Try.func52, Try.ntmps52
  go_wp2
  go_ret
  refine ⟨rfl, ⟨hgh, none, 0, 0, rfl, Nat.le_refl _, by simp [maxLen], ?_, by intro j u hu; simp [bv] at hu⟩, only_trans (only_set w ⟨g, 0, none⟩ _) (only_set _ ⟨g, 1, none⟩ _)⟩
  rw [blk_set (blk_set HB.out 0 (.slice none 0 0)) 1]
  rfl

theorem take_yes' (g h : Nat) (l : List UInt8) (bad : Bool) (i : Int) (n : Nat) (hi : i = n) (w : World) (hr : Rd w g h l bad) (hn : n ≤ l.length) :
    Calls Try.prog 52 #[.pointer (some ⟨g, 0, none⟩), .int .i64 i] w fun e w' => ∃ A c, e = .returned (.slice A n c) ∧ n ≤ c ∧ c ≤ maxLen ∧ (∀ j u, (bv (l.take n))[j]? = some u → ∃ a, A = some a ∧ a.block = h ∧ w'.cell? (a.add j) = some u) ∧ Rd w' g h (l.drop n) bad ∧ w.grownBy w' (some g) := by
  subst hi
  exact take_yes g h l bad n w hr hn
theorem take_no' (g h : Nat) (l : List UInt8) (bad : Bool) (i : Int) (n : Nat) (hi : i = n) (w : World) (hr : Rd w g h l bad) (hn : l.length < n) :
    Calls Try.prog 52 #[.pointer (some ⟨g, 0, none⟩), .int .i64 i] w fun e w' => e = .returned (.slice none 0 0) ∧ Rd w' g h [] true ∧ w.grownBy w' (some g) := by
  subst hi
  exact take_no g h l bad n w hr hn

/-- the number that bytes are, the low one first -/
def le : List UInt8 → Nat
  | [] => 0
  | b :: l => b.toNat + 256 * le l
theorem le_snoc (l : List UInt8) (b : UInt8) : le (l ++ [b]) = le l + 256 ^ l.length * b.toNat := by
  induction l with
  | nil => simp [le]
  | cons c l ih => simp only [List.cons_append, le, ih, List.length_cons, Nat.pow_succ, Nat.mul_add]; rw [Nat.mul_comm (256 ^ l.length) 256, Nat.mul_assoc]; omega
theorem le_lt (l : List UInt8) : le l < 256 ^ l.length := by
  induction l with
  | nil => simp [le]
  | cons b l ih =>
    simp only [le, List.length_cons, Nat.pow_succ]
    have := b.toNat_lt
    omega
theorem le_numB (k n : Nat) : le (numB k n) = n % 256 ^ k := by
  induction k generalizing n with
  | zero => simp [numB, le, Nat.mod_one]
  | succ k ih =>
    simp only [numB, le, ih, UInt8.toNat_ofNat']
    rw [show 256 ^ (k + 1) = 256 * 256 ^ k by rw [Nat.pow_succ, Nat.mul_comm], Nat.mod_mul]
theorem pow256 (j : Nat) : 256 ^ j = 2 ^ (8 * j) := by rw [Nat.pow_mul]
theorem or_shift (N b j : Nat) (hN : N < 256 ^ j) (hb : b < 256) (hj : j < 8) : bits .or .u64 (N : Int) (IntKind.u64.wrap ((b : Int) * 2 ^ (8 * j))) = ((N + 256 ^ j * b : Nat) : Int) := by
  rw [pow256] at hN ⊢
  have h64 : 2 ^ (8 * j) ≤ 2 ^ 56 := Nat.pow_le_pow_right (by omega) (by omega)
  have hb2 : b * 2 ^ (8 * j) ≤ 255 * 2 ^ 56 := Nat.mul_le_mul (by omega) h64
  have hor := Nat.two_pow_add_eq_or_of_lt hN b
  have e : IntKind.u64.wrap ((b : Int) * 2 ^ (8 * j)) = ((b * 2 ^ (8 * j) : Nat) : Int) := by
    rw [IntKind.wrap_u64, show ((b : Int) * 2 ^ (8 * j)) = ((b * 2 ^ (8 * j) : Nat) : Int) by simp]
    omega
  rw [e, u64_or_nat N (b * 2 ^ (8 * j)) (by omega) (by omega), Nat.or_comm, Nat.mul_comm b, ← hor, Nat.add_comm]

set_option maxHeartbeats 1000000 in
theorem rnum_yes (g h : Nat) (l : List UInt8) (bad : Bool) (s : Int) (w : World) (hr : Rd w g h l bad) (hn : wid s ≤ l.length) :
    Calls Try.prog 37 #[.pointer (some ⟨g, 0, none⟩), .int .i64 s] w fun e w' => e = .returned (.int .u64 (le (l.take (wid s)) : Int)) ∧ Rd w' g h (l.drop (wid s)) bad ∧ w.grownBy w' (some g) := by
  obtain ⟨K, hK⟩ : ∃ K, K = wid s := ⟨_, rfl⟩
  have hK8 : K ≤ 8 := by rw [hK]; exact wid_le s
  rw [← hK] at hn ⊢
  have HK := Lib.hid hK
  have HR := Lib.hid hr
  clear hK hr
  have hlen : (l.take K).length = K := List.length_take_of_le hn
  obtain ⟨m, hm⟩ : ∃ m, m = l.take K := ⟨_, rfl⟩
  rw [← hm] at hlen ⊢
  have HL := Lib.hid hlen
  have HMM := Lib.hid hm
  clear hlen hm
  go_enter Try.func37, Try.ntmps37
  go_wp2_with fail
  ((with_reducible refine (width_any s _).mono ?_); rintro e w' ⟨rfl, hw⟩; rw [← hw]; clear hw w')
  rw [← HK.out]
  go_wp2_with fail
  ((with_reducible refine (take_yes g h l bad K _ HR.out hn).mono ?_); rintro e w1 ⟨A, c, rfl, hKc, hcm, hrow, hrd, hgr⟩)
  have HRD := Lib.hid hrd
  have HGR := Lib.hid hgr
  rw [← HMM.out] at hrow
  clear hrd hgr
  unfold maxLen at hcm
  go_wp2
  go_loop [5, 13] (fun x i => ∃ k : Nat, k ≤ K ∧ i = .int .i64 k ∧ x = .int .u64 (le (m.take k) : Int)) (fun _ i => K - (intOf i).toNat)
  case atStart => exact ⟨0, Nat.zero_le _, rfl, rfl⟩
  case round =>
    obtain ⟨k, hk, rfl, rfl⟩ := hrel
    by_cases hlt : k < K
    · have hkm : k < m.length := by rw [HL.out]; exact hlt
      obtain ⟨a, rfl, _, hcell⟩ := hrow k _ (bv_get hkm)
      have hN := le_lt (m.take k)
      rw [List.length_take_of_le (by omega)] at hN
      have hs := le_snoc (m.take k) m[k]
      rw [← take_snoc m (List.getElem?_eq_getElem hkm), List.length_take_of_le (by omega)] at hs
      obtain ⟨b, hb⟩ : ∃ b, b = m[k].toNat := ⟨_, rfl⟩
      have hb8 : b < 256 := by rw [hb]; exact m[k].toNat_lt
      rw [← hb] at hcell hs
      obtain ⟨N, hNN⟩ : ∃ N, N = le (m.take k) := ⟨_, rfl⟩
      rw [← hNN] at hN hs ⊢
      have ho := or_shift N b k hN hb8 (by omega)
      have HS := Lib.hid hs
      have HO := Lib.hid ho
      clear hb hs hNN ho
      go_wp2
      go_round
      case rel => exact ⟨k + 1, by omega, by go_num, by rw [HO.out, HS.out]⟩
      case measure => simp [intOf]; omega
    · obtain rfl : k = K := by omega
      rw [List.take_of_length_le (by rw [HL.out]; exact Nat.le_refl _)]
      go_wp2
      go_ret
      exact ⟨rfl, HRD.out, HGR.out⟩

set_option maxHeartbeats 1000000 in
theorem rnum_no (g h : Nat) (l : List UInt8) (bad : Bool) (s : Int) (w : World) (hr : Rd w g h l bad) (hn : l.length < wid s) :
    Calls Try.prog 37 #[.pointer (some ⟨g, 0, none⟩), .int .i64 s] w fun e w' => e = .returned (.int .u64 0) ∧ Rd w' g h [] true ∧ w.grownBy w' (some g) := by
  have HR := Lib.hid hr
  clear hr
  go_enter Try.func37, Try.ntmps37
  go_wp2_with fail
  ((with_reducible refine (width_any s _).mono ?_); rintro e w' ⟨rfl, hw⟩; rw [← hw]; clear hw w')
  go_wp2_with fail
  ((with_reducible refine (take_no g h l bad (wid s) _ HR.out hn).mono ?_); rintro e w1 ⟨rfl, hrd, hgr⟩)
  have HRD := Lib.hid hrd
  have HGR := Lib.hid hgr
  clear hrd hgr
  go_wp2
  refine wp_loop_rounds 1 ?_
  rw [rounds_succ]
  go_wp2
  go_ret
  exact ⟨rfl, HRD.out, HGR.out⟩

theorem Rd.keep {w w' : World} {g h : Nat} {l : List UInt8} {bad : Bool} (hr : Rd w g h l bad) (hg : w'.heap[g]? = w.heap[g]?) (hh : w'.heap[h]? = w.heap[h]?) : Rd w' g h l bad := by
  obtain ⟨a1, A, n, c, a2, a3, a4, a5, a6⟩ := hr
  exact ⟨a1, A, n, c, a2, a3, a4, hg.trans a5, far_row hh a6⟩
theorem Rd.lt {w : World} {g h : Nat} {l : List UInt8} {bad : Bool} (hr : Rd w g h l bad) : g < w.heap.size := by
  obtain ⟨_, A, n, c, _, _, _, a5, _⟩ := hr
  exact blk_lt a5
theorem Rd.same {w w' : World} {g h : Nat} {l : List UInt8} {bad : Bool} (hr : Rd w g h l bad) (hb : Below w.heap.size w w') (hh : h < w.heap.size) : Rd w' g h l bad := hr.keep (hb.block g hr.lt) (hb.block h hh)
theorem only_below {a b c : World} {row : Option Nat} (h : a.grownBy b row) (k : Below b.heap.size b c) : a.grownBy c row := only_trans h (only_of_below k row)

theorem of_row {w : World} {A : Option Addr} {h n c : Nat} {l : List UInt8} (hn : n = l.length) (hc : n ≤ c) (hm : c ≤ maxLen) (hrow : ∀ (j : Nat) (u : Value), (bv l)[j]? = some u → ∃ a, A = some a ∧ a.block = h ∧ w.cell? (a.add j) = some u) : Bytes w w.heap.size (.slice A n c) l := by
  subst hn
  refine ⟨A, c, rfl, hc, hm, fun j u hu => ?_⟩
  obtain ⟨a, e, _, hcl⟩ := hrow j u hu
  have := World.block_lt_of_cell? w _ hcl
  rw [add_block] at this
  exact ⟨a, e, this, hcl⟩

set_option maxHeartbeats 1000000 in
theorem newreader_any (v : Value) (l : List UInt8) (w : World) (hv : Bytes w w.heap.size v l) (hl : l.length ≤ 1000000) :
    Calls Try.prog 36 #[v] w fun e w' => ∃ g h, e = .returned (.pointer (some ⟨g, 0, none⟩)) ∧ Rd w' g h l false ∧ w.heap.size ≤ g ∧ w.heap.size ≤ h ∧ h < w'.heap.size ∧ Below w.heap.size w w' := by
  obtain ⟨A, c, rfl, hc, hm, hr⟩ := id hv
  have hb1 := (Below.refl w.heap.size w).alloc (Nat.le_refl _) (.cells #[.slice A l.length c] 23)
  have P2 : Parts (w.alloc (.cells #[.slice A l.length c] 23)) (w.heap.size + 1) (.slice (some ⟨w.heap.size, 0, none⟩) 1 1) [l] := Parts.new (Each.cons hv Each.nil) (Nat.le_refl _) (by simp [maxLen]) 1 rfl _ rfl _ (by omega) _ _ rfl
  have HP2 := Lib.hid P2
  clear hv hr P2
  go_enter Try.func36, Try.ntmps36
  go_wp2_with fail
  have hfl : [l].flatten = l := by simp
  have J := join_any _ _ _ _ (by simp) HP2.out (by rw [hfl]; exact hl)
  rw [hfl] at J
  ((with_reducible refine J.mono ?_); rintro e w3 ⟨g3, c3, rfl, hg3, O3, hb3⟩)
  clear J hfl
  have hb4 := hb1.trans (hb3.mono (by simp))
  have hg4 : w.heap.size ≤ g3 := Nat.le_trans (by simp) hg3
  have HO3 := Lib.hid O3
  have hz := hb4.size
  clear hb3 O3 hg3
  go_wp2
  go_ret
  have O3 := HO3.out
  have hlt := World.ownsRow.lt O3 g3 rfl
  have hsh := O3.shape
  obtain ⟨_, _, hsh1, hsh2, hsh3⟩ := hsh
  cases hsh1
  refine ⟨w3.heap.size, g3, rfl, ⟨by omega, _, _, _, rfl, hsh2, hsh3, heap_alloc_new w3 _, ?_⟩, hz, hg4, by simp; omega, hb4.alloc hz _⟩
  intro j u hu
  have hj := get_lt hu
  rw [bv_length] at hj
  refine ⟨_, rfl, rfl, ?_⟩
  have hc' := World.ownsRow.cells O3 (g := g3) rfl j u hu
  exact (World.cell?_alloc_lt w3 _ _ (by rw [add_block]; exact hlt.2)).trans hc'
end Go.Proofs.Ytdmganpblkepfaa
