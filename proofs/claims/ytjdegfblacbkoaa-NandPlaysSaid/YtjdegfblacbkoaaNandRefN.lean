/- The contract of the reference's New. Condition: the power is there. -/
import Derived.Test.YtjdegfblacbkoaaNandRefE
import Derived.Test.YtjdegfblacbkoaaNandRefF
import Derived.Deep.RegionHeld3
namespace Go.Proofs.Ytjdegfblacbkoaa
open Go.RowKit
theorem made_same (z : Value) (m n : Nat) (hm : 0 < m) : madeCells (List.replicate m z).toArray n = (List.replicate n z).toArray := by
  apply Array.toList_inj.1
  rw [List.toList_toArray]
  apply List.ext_getElem?
  intro i
  rcases Nat.lt_or_ge i n with h | h
  · have : i % m < m := Nat.mod_lt _ hm
    simp [madeCells, h, this]
  · rw [List.getElem?_eq_none (by simpa [madeCells] using h), List.getElem?_eq_none (by simpa using h)]
theorem made_row {P : Program} {t e : TypeId} {z zv : Value} {m by_ : Nat} (ht : P.underlying t = some (.slice e)) (hh : (P.info? e).map (fun i => (i.zero, i.size, i.bytes)) = some (some zv, m, by_)) (hz : zv.cells = (List.replicate m z).toArray) (hm : 0 < m) (hb : by_ ≤ 1000) (N : Nat) (hN : N ≤ 1000) (w : World) :
    (Instr.makeSlice t (.int .i64 (N : Int)) (.int .i64 (N : Int))).run P w = .ok (.slice (some ⟨w.heap.size, 0, none⟩) N N) (w.alloc (.cells (List.replicate (N * m) z).toArray e)) := by
  obtain ⟨i, hi, h⟩ := Option.map_eq_some_iff.1 hh
  have e1 : i.zero = some zv := congrArg (·.1) h
  have e2 : i.size = m := congrArg (·.2.1) h
  have e3 : i.bytes = by_ := congrArg (·.2.2) h
  have hbn : by_ * N ≤ 1000 * 1000 := Nat.mul_le_mul hb hN
  have hby : (i.bytes : Int) * (N : Int) ≤ 281474976710656 := by
    rw [e3]
    have h3 : ((by_ * N : Nat) : Int) ≤ 281474976710656 := by omega
    rw [Int.natCast_mul] at h3
    exact h3
  have := run_make (P := P) w t e i zv ht hi e1 .i64 .i64 N N (by omega) (by omega) hby (by omega)
  rw [e2, Int.toNat_natCast, hz, made_same z m (N * m) hm] at this
  exact this
theorem made_ints (N : Nat) (hN : N ≤ 1000) (w : World) : (Instr.makeSlice 22 (.int .i64 (N : Int)) (.int .i64 (N : Int))).run Try.prog w = .ok (.slice (some ⟨w.heap.size, 0, none⟩) N N) (w.alloc (.cells (List.replicate (N * 1) (Value.int .i64 0)).toArray 3)) := made_row (P := Try.prog) (zv := .int .i64 0) (by_ := 8) Try.underlying22 (by kernel_rfl) rfl (by omega) (by omega) N hN w
theorem made_bools (N : Nat) (hN : N ≤ 1000) (w : World) : (Instr.makeSlice 51 (.int .i64 (N : Int)) (.int .i64 (N : Int))).run Try.prog w = .ok (.slice (some ⟨w.heap.size, 0, none⟩) N N) (w.alloc (.cells (List.replicate (N * 1) (Value.bool false)).toArray 4)) := made_row (P := Try.prog) (zv := .bool false) (by_ := 1) Try.underlying51 (by kernel_rfl) rfl (by omega) (by omega) N hN w
def pgZero : Value := .agg (List.replicate 258 (.int .u8 0)).toArray
theorem infoPg : (Try.prog.info? 55).map (fun i => (i.zero, i.size, i.bytes)) = some (some pgZero, 258, 258) := by kernel_rfl
theorem made_pages (N : Nat) (hN : N ≤ 1000) (w : World) : (Instr.makeSlice 50 (.int .i64 (N : Int)) (.int .i64 (N : Int))).run Try.prog w = .ok (.slice (some ⟨w.heap.size, 0, none⟩) N N) (w.alloc (.cells (List.replicate (N * 258) (Value.int .u8 0)).toArray 55)) := made_row (P := Try.prog) Try.underlying50 infoPg rfl (by omega) (by omega) N hN w
/-- v is one of the orders in which three rows are made -/
theorem refNewPower_any (w : World) : Calls Try.prog 8 #[] w fun e w' => e = .returned (.pointer (some ⟨w.heap.size, 0, none⟩)) ∧ RPow w' w.heap.size NM.Pwr.fresh ∧ Below w.heap.size w w' := by
  go_enter Try.func8, Try.ntmps8
  go_wp2
  go_ret
  exact ⟨rfl, Blk.new w _ _, (Below.refl _ _).alloc (Nat.le_refl _) _⟩
/-- the first j of N blocks are blank, the others of noughts; those in zs are bad -/
def mkB (N j : Nat) (zs : List Int) : List Bk := (List.range N).map fun (i : Nat) => ⟨List.replicate 8 (if i < j then NM.ff else pzeros), 0, decide ((i : Int) ∈ zs)⟩
theorem mkB_length (N j : Nat) (zs : List Int) : (mkB N j zs).length = N := by simp [mkB]
theorem mkB_at {N : Nat} (j : Nat) (zs : List Int) {i : Nat} (h : i < (mkB N j zs).length) : (mkB N j zs)[i] = ⟨List.replicate 8 (if i < j then NM.ff else pzeros), 0, decide ((i : Int) ∈ zs)⟩ := by
  simp [mkB]
theorem mkB_ok (N j : Nat) (zs : List Int) : ∀ x ∈ mkB N j zs, x.ok := fun x hx => by
  obtain ⟨i, _, rfl⟩ := List.mem_map.1 hx
  refine ⟨List.length_replicate, fun l hl => ?_, by show 0 ≤ 8; omega⟩
  rw [List.eq_of_mem_replicate hl]
  split
  · exact NM.ff_length
  · exact pzeros_length
theorem mkB_all (N : Nat) (zs : List Int) : mkB N N zs = markB N zs := by
  apply List.ext_getElem (by rw [mkB_length, markB_length])
  intro i h1 h2
  rw [mkB_at, markB_at zs (by rw [mkB_length] at h1; exact h1), if_pos (by rw [mkB_length] at h1; exact h1)]
  rfl
theorem mkB_get (N j : Nat) (zs : List Int) (i : Nat) : (mkB N j zs)[i]? = if i < N then some ⟨List.replicate 8 (if i < j then NM.ff else pzeros), 0, decide ((i : Int) ∈ zs)⟩ else none := by
  unfold mkB
  rw [List.getElem?_map]
  by_cases h : i < N
  · rw [List.getElem?_range h, if_pos h]; rfl
  · rw [List.getElem?_eq_none (by simpa using h), if_neg h]; rfl
theorem mkB_wipe {N j : Nat} (zs : List Int) (h : j < N) : wipeB (mkB N j zs) j 8 = mkB N (j + 1) zs := by
  have hj : j < (mkB N j zs).length := by rw [mkB_length]; exact h
  apply List.ext_getElem?
  intro i
  unfold wipeB
  rw [getBk hj, mkB_at, List.getElem?_set, mkB_length, mkB_get, mkB_get]
  by_cases e : j = i
  · subst e
    rw [if_pos rfl, if_pos h, if_pos h]
    have e2 : (if j < j + 1 then NM.ff else pzeros) = NM.ff := if_pos (by omega)
    rw [e2]
    rfl
  · rw [if_neg e]
    have : (i < j) ↔ (i < j + 1) := by omega
    simp [this]
theorem mkB_bad {N : Nat} (zs : List Int) {b : Nat} (h : b < N) : (mkB N 0 zs).set b ((mkB N 0 zs)[b]'(by rw [mkB_length]; exact h)).setBad = mkB N 0 (zs ++ [(b : Int)]) := by
  rw [mkB_at]
  apply List.ext_getElem?
  intro i
  rw [List.getElem?_set, mkB_length, mkB_get, mkB_get]
  by_cases e : b = i
  · subst e
    rw [if_pos rfl, if_pos h, if_pos h]
    simp [Bk.setBad]
  · rw [if_neg e]
    have : ((i : Int) = (b : Int)) ↔ False := ⟨fun h => e (by omega), False.elim⟩
    simp [this]
/-- a block is bad from now on -/
theorem RChip.setb {w : World} {r : RAt} {S : Ch} (h : RChip w r S) {b : Nat} (hb : b < S.bs.length) : RChip (w.setCell ⟨r.b, b, none⟩ (.bool true)) r { S with bs := S.bs.set b S.bs[b].setBad } ∧ w.grownBy (w.setCell ⟨r.b, b, none⟩ (.bool true)) (some r.b) := by
  have hg : w.grownBy (w.setCell ⟨r.b, b, none⟩ (.bool true)) (some r.b) := ⟨rfl, rfl, rfl, by simp, fun i _ hi => Below.heap_setCell w _ _ i (by simpa using hi)⟩
  have hc : Chg w _ (fun k => k = r.b) := Chg.of_grown hg (fun k e => Option.some.inj e)
  refine ⟨?_, hg⟩
  obtain ⟨⟨vp, ve, fp, fe, h1, h2, h3, h4, h5⟩, r1, r2, r3, r4, r5, r6, r7, r8, r9⟩ := h
  obtain ⟨a1, a2, a3, a4, a5, a6⟩ := r6
  have hmap : ∀ {β : Type} (f : Bk → β), (∀ x : Bk, f x.setBad = f x) → (S.bs.set b S.bs[b].setBad).map f = S.bs.map f := fun f hf => by
    rw [List.map_set, hf]
    have : f S.bs[b] = (S.bs.map f)[b]'(by simpa using hb) := by simp
    rw [this, List.set_getElem_self]
  refine ⟨⟨vp, ve, fp, fe, ?_, h2.chg hc (fun k e => (r8 k e).2.2.2), h3.chg hc (fun k e => (r9 k e).2.2.2), h4, h5⟩, ?_, ?_, ?_, ?_, by show 16 ≤ (S.bs.set b S.bs[b].setBad).length ∧ _; rw [List.length_set]; exact r5, ⟨a1, a2, a3, a4, a5, a6⟩, r7, r8, r9⟩
  · have e := h1.chg hc a3
    unfold Ch.rcells at e ⊢
    simp only [List.length_set]
    exact e
  · have : pgsOf (S.bs.set b S.bs[b].setBad) = pgsOf S.bs := by unfold pgsOf; rw [hmap (·.pg) (fun _ => rfl)]
    show Pgs _ r.g (pgsOf _)
    rw [this]
    exact ⟨r1.1.chg hc a5, r1.2⟩
  · show Blk _ r.n _ (List.map _ _)
    rw [hmap (fun b => Value.int .i64 (b.nx : Int)) (fun _ => rfl)]
    exact r2.chg hc a6
  · show Blk _ r.b _ (List.map _ _)
    rw [List.map_set]
    exact r3.set b _
  · intro x hx
    rcases List.mem_or_eq_of_mem_set hx with h | h
    · exact r4 x h
    · rw [h]; exact Bk.setBad_ok (r4 _ (List.getElem_mem hb))
/-- the reference's chip, just made -/
theorem RChip.made {W : World} {p N c g n b : Nat} (hN : 16 ≤ N ∧ N ≤ 40) (h1 : Blk W c 53 [.pointer (some ⟨p, 0, none⟩), .slice (some ⟨g, 0, none⟩) (8 * N) (8 * N), .slice (some ⟨n, 0, none⟩) N N, .slice (some ⟨b, 0, none⟩) N N, .bool false, .bool false, .slice none 0 0, .slice none 0 0, .int .i64 0, .int .i64 0, .int .i64 0])
    (h2 : Blk W g 55 (List.replicate (8 * N * 258) (.int .u8 0))) (h3 : Blk W n 3 (List.replicate (N * 1) (.int .i64 0))) (h4 : Blk W b 4 (List.replicate (N * 1) (.bool false)))
    (ha : c ≠ g ∧ c ≠ n ∧ c ≠ b ∧ g ≠ n ∧ g ≠ b ∧ n ≠ b) (hp : p ≠ c ∧ p ≠ g ∧ p ≠ n ∧ p ≠ b) : RChip W ⟨c, g, n, b, p, none, none⟩ ⟨mkB N 0 [], false, false, 0, fun _ => false, 0, fun _ => false, 0⟩ := by
  have em : mkB N 0 [] = List.replicate N Bk.zero := by
    apply List.ext_getElem (by rw [mkB_length, List.length_replicate])
    intro i h1 h2
    rw [mkB_at, List.getElem_replicate, if_neg (by omega)]
    rfl
  refine ⟨⟨.slice none 0 0, .slice none 0 0, [], [], ?_, ⟨none, 0, rfl, Nat.le_refl _, by simp [maxLen], by simp, by simp⟩, ⟨none, 0, rfl, Nat.le_refl _, by simp [maxLen], by simp, by simp⟩, fun i => by simp, fun i => by simp⟩, ?_, ?_, ?_, mkB_ok _ _ _, by show 16 ≤ (mkB N 0 []).length ∧ (mkB N 0 []).length ≤ 40; rw [mkB_length]; exact hN, ha, ?_, (by intro k e; cases e), (by intro k e; cases e)⟩
  · unfold Ch.rcells
    simp only [mkB_length]
    exact h1
  · have e : pgsOf (mkB N 0 []) = List.replicate (8 * N) pzeros := by
      rw [em]
      unfold pgsOf
      rw [List.map_replicate]
      show (List.replicate N (List.replicate 8 pzeros)).flatten = _
      rw [List.flatten_replicate_replicate, Nat.mul_comm]
    show Pgs W g (pgsOf (mkB N 0 []))
    rw [e]
    refine ⟨?_, fun l hl => by rw [List.eq_of_mem_replicate hl]; exact pzeros_length⟩
    have e2 : bv (List.replicate (8 * N) pzeros).flatten = List.replicate (8 * N * 258) (.int .u8 0) := by
      unfold pzeros
      rw [List.flatten_replicate_replicate]
      exact List.map_replicate
    rw [e2]
    exact h2
  · show Blk W n _ (List.map _ (mkB N 0 []))
    rw [em, List.map_replicate]
    rw [Nat.mul_one] at h3
    exact h3
  · show Blk W b _ (List.map _ (mkB N 0 []))
    rw [em, List.map_replicate]
    rw [Nat.mul_one] at h4
    exact h4
  · rintro (h | h | h | h | h | h)
    · exact hp.1 h
    · exact hp.2.1 h
    · exact hp.2.2.1 h
    · exact hp.2.2.2 h
    · cases h
    · cases h
/-- four rows made one behind the other -/
theorem four (w : World) (c1 c2 c3 c4 : List Value) (t1 t2 t3 t4 : TypeId) :
    (Blk ((((w.alloc (.cells c1.toArray t1)).alloc (.cells c2.toArray t2)).alloc (.cells c3.toArray t3)).alloc (.cells c4.toArray t4)) w.heap.size t1 c1 ∧
     Blk ((((w.alloc (.cells c1.toArray t1)).alloc (.cells c2.toArray t2)).alloc (.cells c3.toArray t3)).alloc (.cells c4.toArray t4)) (w.heap.size + 1) t2 c2 ∧
     Blk ((((w.alloc (.cells c1.toArray t1)).alloc (.cells c2.toArray t2)).alloc (.cells c3.toArray t3)).alloc (.cells c4.toArray t4)) (w.heap.size + 1 + 1) t3 c3 ∧
     Blk ((((w.alloc (.cells c1.toArray t1)).alloc (.cells c2.toArray t2)).alloc (.cells c3.toArray t3)).alloc (.cells c4.toArray t4)) (w.heap.size + 1 + 1 + 1) t4 c4) ∧
     Below w.heap.size w ((((w.alloc (.cells c1.toArray t1)).alloc (.cells c2.toArray t2)).alloc (.cells c3.toArray t3)).alloc (.cells c4.toArray t4)) := by
  have b1 := Blk.new w t1 c1
  have b2 := Blk.new (w.alloc (.cells c1.toArray t1)) t2 c2
  have b3 := Blk.new ((w.alloc (.cells c1.toArray t1)).alloc (.cells c2.toArray t2)) t3 c3
  have b4 := Blk.new (((w.alloc (.cells c1.toArray t1)).alloc (.cells c2.toArray t2)).alloc (.cells c3.toArray t3)) t4 c4
  rw [World.size_alloc] at b2
  rw [World.size_alloc, World.size_alloc] at b3
  rw [World.size_alloc, World.size_alloc, World.size_alloc] at b4
  exact ⟨⟨((b1.alloc _).alloc _).alloc _, (b2.alloc _).alloc _, b3.alloc _, b4⟩, ((((Below.refl _ _).alloc (Nat.le_refl _) _).alloc (by simp) _).alloc (by simp; omega) _).alloc (by simp; omega) _⟩
def rchip0 (p g n b N : Nat) : List Value := [.pointer (some ⟨p, 0, none⟩), .slice (some ⟨g, 0, none⟩) (8 * N) (8 * N), .slice (some ⟨n, 0, none⟩) N N, .slice (some ⟨b, 0, none⟩) N N, .bool false, .bool false, .slice none 0 0, .slice none 0 0, .int .i64 0, .int .i64 0, .int .i64 0]
structure Made (w W : World) (c g n b p N : Nat) : Prop where
  h1 : Blk W c 53 (rchip0 p g n b N)
  h2 : Blk W g 55 (List.replicate (8 * N * 258) (.int .u8 0))
  h3 : Blk W n 3 (List.replicate (N * 1) (.int .i64 0))
  h4 : Blk W b 4 (List.replicate (N * 1) (.bool false))
  bl : Below w.heap.size w W
  ge : w.heap.size ≤ c ∧ w.heap.size ≤ g ∧ w.heap.size ≤ n ∧ w.heap.size ≤ b
  ap : c ≠ g ∧ c ≠ n ∧ c ≠ b ∧ g ≠ n ∧ g ≠ b ∧ n ≠ b
set_option maxRecDepth 100000 in
set_option maxHeartbeats 4000000 in
theorem refNew_any (N : Nat) (hN : 16 ≤ N ∧ N ≤ 40) (zs : List Int) (v : Value) (p : Nat) (s : NM.Pwr) (w : World) (hp : RPow w p s) (hv : Nums w w.heap.size .i64 v zs) :
    Calls Try.prog 10 #[.pointer (some ⟨p, 0, none⟩), .int .i64 (N : Int), v] w fun e w' =>
      (badOut N zs = true ∧ e = .returned (.pointer none) ∧ Below w.heap.size w w') ∨ (badOut N zs = false ∧ ∃ r : RAt, e = .returned (.pointer (some ⟨r.c, 0, none⟩)) ∧ r.p = p ∧ r.xp = none ∧ r.xe = none ∧ (∀ k, r.own k → w.heap.size ≤ k) ∧ RChip w' r (Ch.marked N zs) ∧ Below w.heap.size w w') := by
  obtain ⟨hN1, hN2⟩ := hN
  have hmI := made_ints N (by omega)
  have hmB := made_bools N (by omega)
  have hmP := made_pages (8 * N) (by omega)
  obtain ⟨cI, hcI⟩ : ∃ c, c = (List.replicate (N * 1) (Value.int .i64 0)).toArray := ⟨_, rfl⟩
  obtain ⟨cB, hcB⟩ : ∃ c, c = (List.replicate (N * 1) (Value.bool false)).toArray := ⟨_, rfl⟩
  obtain ⟨cP, hcP⟩ : ∃ c, c = (List.replicate (8 * N * 258) (Value.int .u8 0)).toArray := ⟨_, rfl⟩
  have M0 : Made w ((((w.alloc (.cells cI 3)).alloc (.cells cB 4)).alloc (.cells cP 55)).alloc (.cells (rchip0 p (w.heap.size + 1 + 1) w.heap.size (w.heap.size + 1) N).toArray 53)) (w.heap.size + 1 + 1 + 1) (w.heap.size + 1 + 1) w.heap.size (w.heap.size + 1) p N := by
    rw [hcI, hcB, hcP]
    have h := (four w (List.replicate (N * 1) (Value.int .i64 0)) (List.replicate (N * 1) (Value.bool false)) (List.replicate (8 * N * 258) (Value.int .u8 0)) (rchip0 p (w.heap.size + 1 + 1) w.heap.size (w.heap.size + 1) N) 3 4 55 53)
    exact ⟨h.1.2.2.2, h.1.2.2.1, h.1.1, h.1.2.1, h.2, by omega, by omega⟩
  have M1 : Made w ((((w.alloc (.cells cI 3)).alloc (.cells cP 55)).alloc (.cells cB 4)).alloc (.cells (rchip0 p (w.heap.size + 1) w.heap.size (w.heap.size + 1 + 1) N).toArray 53)) (w.heap.size + 1 + 1 + 1) (w.heap.size + 1) w.heap.size (w.heap.size + 1 + 1) p N := by
    rw [hcI, hcB, hcP]
    have h := (four w (List.replicate (N * 1) (Value.int .i64 0)) (List.replicate (8 * N * 258) (Value.int .u8 0)) (List.replicate (N * 1) (Value.bool false)) (rchip0 p (w.heap.size + 1) w.heap.size (w.heap.size + 1 + 1) N) 3 55 4 53)
    exact ⟨h.1.2.2.2, h.1.2.1, h.1.1, h.1.2.2.1, h.2, by omega, by omega⟩
  have M2 : Made w ((((w.alloc (.cells cB 4)).alloc (.cells cI 3)).alloc (.cells cP 55)).alloc (.cells (rchip0 p (w.heap.size + 1 + 1) (w.heap.size + 1) w.heap.size N).toArray 53)) (w.heap.size + 1 + 1 + 1) (w.heap.size + 1 + 1) (w.heap.size + 1) w.heap.size p N := by
    rw [hcI, hcB, hcP]
    have h := (four w (List.replicate (N * 1) (Value.bool false)) (List.replicate (N * 1) (Value.int .i64 0)) (List.replicate (8 * N * 258) (Value.int .u8 0)) (rchip0 p (w.heap.size + 1 + 1) (w.heap.size + 1) w.heap.size N) 4 3 55 53)
    exact ⟨h.1.2.2.2, h.1.2.2.1, h.1.2.1, h.1.1, h.2, by omega, by omega⟩
  have M3 : Made w ((((w.alloc (.cells cB 4)).alloc (.cells cP 55)).alloc (.cells cI 3)).alloc (.cells (rchip0 p (w.heap.size + 1) (w.heap.size + 1 + 1) w.heap.size N).toArray 53)) (w.heap.size + 1 + 1 + 1) (w.heap.size + 1) (w.heap.size + 1 + 1) w.heap.size p N := by
    rw [hcI, hcB, hcP]
    have h := (four w (List.replicate (N * 1) (Value.bool false)) (List.replicate (8 * N * 258) (Value.int .u8 0)) (List.replicate (N * 1) (Value.int .i64 0)) (rchip0 p (w.heap.size + 1) (w.heap.size + 1 + 1) w.heap.size N) 4 55 3 53)
    exact ⟨h.1.2.2.2, h.1.2.1, h.1.2.2.1, h.1.1, h.2, by omega, by omega⟩
  have M4 : Made w ((((w.alloc (.cells cP 55)).alloc (.cells cI 3)).alloc (.cells cB 4)).alloc (.cells (rchip0 p w.heap.size (w.heap.size + 1) (w.heap.size + 1 + 1) N).toArray 53)) (w.heap.size + 1 + 1 + 1) w.heap.size (w.heap.size + 1) (w.heap.size + 1 + 1) p N := by
    rw [hcI, hcB, hcP]
    have h := (four w (List.replicate (8 * N * 258) (Value.int .u8 0)) (List.replicate (N * 1) (Value.int .i64 0)) (List.replicate (N * 1) (Value.bool false)) (rchip0 p w.heap.size (w.heap.size + 1) (w.heap.size + 1 + 1) N) 55 3 4 53)
    exact ⟨h.1.2.2.2, h.1.1, h.1.2.1, h.1.2.2.1, h.2, by omega, by omega⟩
  have M5 : Made w ((((w.alloc (.cells cP 55)).alloc (.cells cB 4)).alloc (.cells cI 3)).alloc (.cells (rchip0 p w.heap.size (w.heap.size + 1 + 1) (w.heap.size + 1) N).toArray 53)) (w.heap.size + 1 + 1 + 1) w.heap.size (w.heap.size + 1 + 1) (w.heap.size + 1) p N := by
    rw [hcI, hcB, hcP]
    have h := (four w (List.replicate (8 * N * 258) (Value.int .u8 0)) (List.replicate (N * 1) (Value.bool false)) (List.replicate (N * 1) (Value.int .i64 0)) (rchip0 p w.heap.size (w.heap.size + 1 + 1) (w.heap.size + 1) N) 55 4 3 53)
    exact ⟨h.1.2.2.2, h.1.1, h.1.2.2.1, h.1.2.1, h.2, by omega, by omega⟩
  rw [← hcI] at hmI
  rw [← hcB] at hmB
  rw [← hcP] at hmP
  have ecast : ((8 * N : Nat) : Int) = 8 * (N : Int) := by push_cast; rfl
  rw [ecast] at hmP
  have ww : IntKind.i64.wrap (8 * (N : Int)) = 8 * (N : Int) := by rw [IntKind.wrap_i64]; omega
  have HM0 := Lib.hid M0
  have HM1 := Lib.hid M1
  have HM2 := Lib.hid M2
  have HM3 := Lib.hid M3
  have HM4 := Lib.hid M4
  have HM5 := Lib.hid M5
  clear hcI hcB hcP ecast M0 M1 M2 M3 M4 M5
  have hpl := hp.lt
  have HV := Lib.hid hv
  obtain ⟨A, cap, rfl, hl, hm, hrow, _⟩ := hv
  have HR := Lib.hid hrow
  unfold maxLen at hm
  clear hrow hp
  go_enter Try.func10, Try.ntmps10
  go_wp2_with fail
  go_region
  obtain ⟨W, hW⟩ : ∃ W, W = ((((w.alloc (.cells cI 3)).alloc (.cells cB 4)).alloc (.cells cP 55)).alloc (.cells #[.pointer (some ⟨p, 0, none⟩), .slice (some ⟨w.heap.size + 1 + 1, 0, none⟩) (8 * N) (8 * N), .slice (some ⟨w.heap.size, 0, none⟩) N N, .slice (some ⟨w.heap.size + 1, 0, none⟩) N N, .bool false, .bool false, .slice none 0 0, .slice none 0 0, .int .i64 0, .int .i64 0, .int .i64 0] 53)) := ⟨_, rfl⟩
  have hM : Made w W (w.heap.size + 1 + 1 + 1) (w.heap.size + 1 + 1) (w.heap.size) (w.heap.size + 1) p N := by rw [hW]; exact HM0.out
  rw [← hW]
  clear hW
  obtain ⟨c, hc⟩ : ∃ c, c = w.heap.size + 1 + 1 + 1 := ⟨_, rfl⟩
  rw [← hc] at hM ⊢
  clear hc
  obtain ⟨g, hg⟩ : ∃ g, g = w.heap.size + 1 + 1 := ⟨_, rfl⟩
  rw [← hg] at hM ⊢
  clear hg
  obtain ⟨b, hb⟩ : ∃ b, b = w.heap.size + 1 := ⟨_, rfl⟩
  rw [← hb] at hM ⊢
  clear hb
  obtain ⟨n, hn⟩ : ∃ n, n = w.heap.size := ⟨_, rfl⟩
  rw [← hn] at hM ⊢
  clear hn
  rotate_left 1
  obtain ⟨W, hW⟩ : ∃ W, W = ((((w.alloc (.cells cI 3)).alloc (.cells cP 55)).alloc (.cells cB 4)).alloc (.cells #[.pointer (some ⟨p, 0, none⟩), .slice (some ⟨w.heap.size + 1, 0, none⟩) (8 * N) (8 * N), .slice (some ⟨w.heap.size, 0, none⟩) N N, .slice (some ⟨w.heap.size + 1 + 1, 0, none⟩) N N, .bool false, .bool false, .slice none 0 0, .slice none 0 0, .int .i64 0, .int .i64 0, .int .i64 0] 53)) := ⟨_, rfl⟩
  have hM : Made w W (w.heap.size + 1 + 1 + 1) (w.heap.size + 1) (w.heap.size) (w.heap.size + 1 + 1) p N := by rw [hW]; exact HM1.out
  rw [← hW]
  clear hW
  obtain ⟨c, hc⟩ : ∃ c, c = w.heap.size + 1 + 1 + 1 := ⟨_, rfl⟩
  rw [← hc] at hM ⊢
  clear hc
  obtain ⟨b, hb⟩ : ∃ b, b = w.heap.size + 1 + 1 := ⟨_, rfl⟩
  rw [← hb] at hM ⊢
  clear hb
  obtain ⟨g, hg⟩ : ∃ g, g = w.heap.size + 1 := ⟨_, rfl⟩
  rw [← hg] at hM ⊢
  clear hg
  obtain ⟨n, hn⟩ : ∃ n, n = w.heap.size := ⟨_, rfl⟩
  rw [← hn] at hM ⊢
  clear hn
  rotate_left 1
  obtain ⟨W, hW⟩ : ∃ W, W = ((((w.alloc (.cells cB 4)).alloc (.cells cI 3)).alloc (.cells cP 55)).alloc (.cells #[.pointer (some ⟨p, 0, none⟩), .slice (some ⟨w.heap.size + 1 + 1, 0, none⟩) (8 * N) (8 * N), .slice (some ⟨w.heap.size + 1, 0, none⟩) N N, .slice (some ⟨w.heap.size, 0, none⟩) N N, .bool false, .bool false, .slice none 0 0, .slice none 0 0, .int .i64 0, .int .i64 0, .int .i64 0] 53)) := ⟨_, rfl⟩
  have hM : Made w W (w.heap.size + 1 + 1 + 1) (w.heap.size + 1 + 1) (w.heap.size + 1) (w.heap.size) p N := by rw [hW]; exact HM2.out
  rw [← hW]
  clear hW
  obtain ⟨c, hc⟩ : ∃ c, c = w.heap.size + 1 + 1 + 1 := ⟨_, rfl⟩
  rw [← hc] at hM ⊢
  clear hc
  obtain ⟨g, hg⟩ : ∃ g, g = w.heap.size + 1 + 1 := ⟨_, rfl⟩
  rw [← hg] at hM ⊢
  clear hg
  obtain ⟨n, hn⟩ : ∃ n, n = w.heap.size + 1 := ⟨_, rfl⟩
  rw [← hn] at hM ⊢
  clear hn
  obtain ⟨b, hb⟩ : ∃ b, b = w.heap.size := ⟨_, rfl⟩
  rw [← hb] at hM ⊢
  clear hb
  rotate_left 1
  obtain ⟨W, hW⟩ : ∃ W, W = ((((w.alloc (.cells cB 4)).alloc (.cells cP 55)).alloc (.cells cI 3)).alloc (.cells #[.pointer (some ⟨p, 0, none⟩), .slice (some ⟨w.heap.size + 1, 0, none⟩) (8 * N) (8 * N), .slice (some ⟨w.heap.size + 1 + 1, 0, none⟩) N N, .slice (some ⟨w.heap.size, 0, none⟩) N N, .bool false, .bool false, .slice none 0 0, .slice none 0 0, .int .i64 0, .int .i64 0, .int .i64 0] 53)) := ⟨_, rfl⟩
  have hM : Made w W (w.heap.size + 1 + 1 + 1) (w.heap.size + 1) (w.heap.size + 1 + 1) (w.heap.size) p N := by rw [hW]; exact HM3.out
  rw [← hW]
  clear hW
  obtain ⟨c, hc⟩ : ∃ c, c = w.heap.size + 1 + 1 + 1 := ⟨_, rfl⟩
  rw [← hc] at hM ⊢
  clear hc
  obtain ⟨n, hn⟩ : ∃ n, n = w.heap.size + 1 + 1 := ⟨_, rfl⟩
  rw [← hn] at hM ⊢
  clear hn
  obtain ⟨g, hg⟩ : ∃ g, g = w.heap.size + 1 := ⟨_, rfl⟩
  rw [← hg] at hM ⊢
  clear hg
  obtain ⟨b, hb⟩ : ∃ b, b = w.heap.size := ⟨_, rfl⟩
  rw [← hb] at hM ⊢
  clear hb
  rotate_left 1
  obtain ⟨W, hW⟩ : ∃ W, W = ((((w.alloc (.cells cP 55)).alloc (.cells cI 3)).alloc (.cells cB 4)).alloc (.cells #[.pointer (some ⟨p, 0, none⟩), .slice (some ⟨w.heap.size, 0, none⟩) (8 * N) (8 * N), .slice (some ⟨w.heap.size + 1, 0, none⟩) N N, .slice (some ⟨w.heap.size + 1 + 1, 0, none⟩) N N, .bool false, .bool false, .slice none 0 0, .slice none 0 0, .int .i64 0, .int .i64 0, .int .i64 0] 53)) := ⟨_, rfl⟩
  have hM : Made w W (w.heap.size + 1 + 1 + 1) (w.heap.size) (w.heap.size + 1) (w.heap.size + 1 + 1) p N := by rw [hW]; exact HM4.out
  rw [← hW]
  clear hW
  obtain ⟨c, hc⟩ : ∃ c, c = w.heap.size + 1 + 1 + 1 := ⟨_, rfl⟩
  rw [← hc] at hM ⊢
  clear hc
  obtain ⟨b, hb⟩ : ∃ b, b = w.heap.size + 1 + 1 := ⟨_, rfl⟩
  rw [← hb] at hM ⊢
  clear hb
  obtain ⟨n, hn⟩ : ∃ n, n = w.heap.size + 1 := ⟨_, rfl⟩
  rw [← hn] at hM ⊢
  clear hn
  obtain ⟨g, hg⟩ : ∃ g, g = w.heap.size := ⟨_, rfl⟩
  rw [← hg] at hM ⊢
  clear hg
  rotate_left 1
  obtain ⟨W, hW⟩ : ∃ W, W = ((((w.alloc (.cells cP 55)).alloc (.cells cB 4)).alloc (.cells cI 3)).alloc (.cells #[.pointer (some ⟨p, 0, none⟩), .slice (some ⟨w.heap.size, 0, none⟩) (8 * N) (8 * N), .slice (some ⟨w.heap.size + 1 + 1, 0, none⟩) N N, .slice (some ⟨w.heap.size + 1, 0, none⟩) N N, .bool false, .bool false, .slice none 0 0, .slice none 0 0, .int .i64 0, .int .i64 0, .int .i64 0] 53)) := ⟨_, rfl⟩
  have hM : Made w W (w.heap.size + 1 + 1 + 1) (w.heap.size) (w.heap.size + 1 + 1) (w.heap.size + 1) p N := by rw [hW]; exact HM5.out
  rw [← hW]
  clear hW
  obtain ⟨c, hc⟩ : ∃ c, c = w.heap.size + 1 + 1 + 1 := ⟨_, rfl⟩
  rw [← hc] at hM ⊢
  clear hc
  obtain ⟨n, hn⟩ : ∃ n, n = w.heap.size + 1 + 1 := ⟨_, rfl⟩
  rw [← hn] at hM ⊢
  clear hn
  obtain ⟨b, hb⟩ : ∃ b, b = w.heap.size + 1 := ⟨_, rfl⟩
  rw [← hb] at hM ⊢
  clear hb
  obtain ⟨g, hg⟩ : ∃ g, g = w.heap.size := ⟨_, rfl⟩
  rw [← hg] at hM ⊢
  clear hg
  rotate_left 1
  all_goals
    clear hmI hmB hmP HM0 HM1 HM2 HM3 HM4 HM5
    have HC0 := Lib.hid (RChip.made ⟨hN1, hN2⟩ hM.h1 hM.h2 hM.h3 hM.h4 hM.ap (by have := hM.ge; omega))
    have HBL := Lib.hid hM.bl
    have HGE := Lib.hid hM.ge
    clear hM
    go_wp2_with fail
    go_loopw [8] (fun i wr => ∃ k : Nat, k ≤ zs.length ∧ i = .int .i64 k ∧ (∀ z ∈ zs.take k, ¬ (z < 0 ∨ (N : Int) ≤ z)) ∧ RChip wr ⟨c, g, n, b, p, none, none⟩ ⟨mkB N 0 (zs.take k), false, false, 0, fun _ => false, 0, fun _ => false, 0⟩ ∧ Below w.heap.size w wr) (fun i _ => zs.length - (intOf i).toNat)
    case atStart => exact ⟨0, Nat.zero_le _, rfl, fun z h => by simp at h, HC0.out.after (Below.refl _ _).drew, HBL.out.drew⟩
    case round =>
      obtain ⟨k, hk, rfl, hall, hC, hb⟩ := hrel
      clear HC0 HBL
      have HALL := Lib.hid hall
      clear hall
      have HC := Lib.hid hC
      have Hb := Lib.hid hb
      clear hC hb
      by_cases hlt : k < zs.length
      · obtain ⟨a, rfl, hab, hcell⟩ := HR.out.at_ (k := k) (by simpa using hlt)
        rw [List.getElem_map] at hcell
        have hc2 := (Hb.out.cell (p := a.add k) (by rw [add_block]; exact hab)).trans hcell
        have ht := take_snoc zs (List.getElem?_eq_getElem hlt)
        have hmem := List.getElem_mem hlt
        obtain ⟨z, hz⟩ : ∃ z, z = zs[k] := ⟨_, rfl⟩
        rw [← hz] at hc2 ht hmem
        by_cases hout : z < 0 ∨ (N : Int) ≤ z
        · have HBO : Hid (badOut N zs = true) := Lib.hid (List.any_eq_true.2 ⟨z, hmem, by simpa using hout⟩)
          clear hmem ht hz hcell
          by_cases hneg : z < 0
          · have d1 : decide (z < 0) = true := by simp [hneg]
            clear hneg hout
            go_wp2_with fail
            go_ret
            exact .inl ⟨HBO.out, rfl, Hb.out⟩
          · have d1 : decide (z < 0) = false := by simp; omega
            have d2 : decide ((N : Int) ≤ z) = true := by simp; omega
            clear hneg hout
            go_wp2_with fail
            go_ret
            exact .inl ⟨HBO.out, rfl, Hb.out⟩
        have hno' := hout
        have HNO := Lib.hid hout
        obtain ⟨y, rfl⟩ : ∃ y : Nat, z = (y : Int) := ⟨z.toNat, by omega⟩
        have hyN : y < N := by omega
        have d1 : decide ((N : Int) ≤ (y : Int)) = false := by simp; omega
        have HT := Lib.hid ht
        clear ht hno' hz hcell hmem hout
        have hyl : y < (mkB N 0 (zs.take k)).length := by rw [mkB_length]; exact hyN
        have c3 := HC.out.rcell.2.2.1
        simp only [mkB_length] at c3
        have cb := HC.out.badc (b := y) hyl
        have fb := HC.out.bd.free y
        obtain ⟨C5, g5⟩ := HC.out.setb (b := y) hyl
        rw [mkB_bad _ hyN, ← HT.out] at C5
        have HC5 := Lib.hid C5
        have Hb5 := Lib.hid (Hb.out.grown g5 Hb.out.size (fun k e => by cases e; exact HGE.out.2.2.2))
        clear C5 g5
        go_wp2_with fail
        go_region
        all_goals
          try (go_wp2_with fail)
          exact ⟨⟨k + 1, by omega, by go_num, fun q hq => by
            rw [HT.out] at hq
            rcases List.mem_append.1 hq with h | h
            · exact HALL.out q h
            · rw [List.mem_singleton.1 h]; exact HNO.out, HC5.out.after (Below.refl _ _).drew, Hb5.out.drew⟩, by simp [intOf]; omega⟩
      · obtain rfl : k = zs.length := by omega
        rw [List.take_length] at HC HALL
        have HBO : Hid (badOut N zs = false) := Lib.hid (List.any_eq_false.2 fun z hz => by simpa using HALL.out z hz)
        clear hlt hk HALL
        go_wp2_with fail
        go_loopw [9] (fun i wr => ∃ j : Nat, j ≤ N ∧ i = .int .i64 j ∧ RChip wr ⟨c, g, n, b, p, none, none⟩ ⟨mkB N j zs, false, false, 0, fun _ => false, 0, fun _ => false, 0⟩ ∧ Below w.heap.size w wr) (fun i _ => N - (intOf i).toNat)
        case atStart => exact ⟨0, Nat.zero_le _, rfl, HC.out, Hb.out⟩
        case round =>
          obtain ⟨j, hj, rfl, hC, hb⟩ := hrel
          clear HC Hb
          have HC := Lib.hid hC
          have Hb := Lib.hid hb
          clear hC hb
          by_cases hlt : j < N
          · have hjl : j < (mkB N j zs).length := by rw [mkB_length]; exact hlt
            have k1 := HC.out.wipe (b := j) hjl 8 8 rfl rfl
            simp only [mkB_wipe zs hlt] at k1
            go_wp2_with ((with_reducible refine k1.mono ?_); rintro e w5 ⟨rfl, C5, q5⟩)
            have Hb5 := Hb.out.trans (q5.below (fun k e => by have h1 : k = g := e; have := HGE.out; omega) Hb.out.size)
            exact ⟨⟨j + 1, by omega, by go_num, C5, Hb5⟩, by simp [intOf]; omega⟩
          · obtain rfl : j = N := by omega
            rw [mkB_all] at HC
            go_wp2_with fail
            go_ret
            refine .inr ⟨HBO.out, ⟨c, g, n, b, p, none, none⟩, rfl, rfl, rfl, rfl, fun k hk => ?_, HC.out, Hb.out⟩
            have hge := HGE.out
            rcases hk with h | h | h | h | h | h
            · have : k = c := h; omega
            · have : k = g := h; omega
            · have : k = n := h; omega
            · have : k = b := h; omega
            · cases h
            · cases h
theorem refNewR_any (n : Int) (v : Value) (p : Nat) (w : World) (hz : n < 16 ∨ 40 < n) :
    Calls Try.prog 10 #[.pointer (some ⟨p, 0, none⟩), .int .i64 n, v] w fun e w' => e = .returned (.pointer none) ∧ Below w.heap.size w w' := by
  by_cases h1 : n < 16
  · have d1 : decide (n < 16) = true := by simp [h1]
    clear hz h1
    go_enter Try.func10, Try.ntmps10
    go_wp2_with fail
    go_ret
    exact ⟨rfl, Below.refl _ _⟩
  · have d1 : decide (n < 16) = false := by simp; omega
    have d2 : decide (40 < n) = true := by simp; omega
    clear hz h1
    go_enter Try.func10, Try.ntmps10
    go_wp2_with fail
    go_ret
    exact ⟨rfl, Below.refl _ _⟩
end Go.Proofs.Ytjdegfblacbkoaa
