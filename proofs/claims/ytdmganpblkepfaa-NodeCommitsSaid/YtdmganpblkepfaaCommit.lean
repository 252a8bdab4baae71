/- The contracts of node's WriteCommit. No condition but that the set has 32 bytes. -/
import Derived.Test.YtdmganpblkepfaaNodeRead
import Derived.Test.YtdmganpblkepfaaArr
namespace Go.Proofs.Ytdmganpblkepfaa
open Go.RowKit
/-- a commit's cells, and its bytes -/
def ccs (e : Nat) (L : List UInt8) (s : Nat) : List Value := .int .u64 (e : Int) :: (bv L ++ [.int .u32 (s : Int)])
def cb (e : Nat) (L : List UInt8) (s : Nat) : List UInt8 := numB 8 e ++ (numB 4 s ++ L)
theorem ccs_length {e : Nat} {L : List UInt8} {s : Nat} (hL : L.length = 32) : (ccs e L s).length = 34 := by simp [ccs, bv, hL]
theorem cb_length {e : Nat} {L : List UInt8} {s : Nat} (hL : L.length = 32) : (cb e L s).length = 44 := by simp only [cb, List.length_append, numB_length, hL]
theorem ccs_last {e : Nat} {L : List UInt8} {s : Nat} (hL : L.length = 32) : (ccs e L s)[33]? = some (.int .u32 (s : Int)) := by
  unfold ccs
  rw [List.getElem?_cons_succ, List.getElem?_append_right (by rw [bv_length]; omega), bv_length, hL]
  rfl
theorem ccs_mid {e : Nat} {L : List UInt8} {s : Nat} {j : Nat} {u : Value} (h : (bv L)[j]? = some u) : (ccs e L s)[1 + j]? = some u := by
  unfold ccs
  rw [Nat.add_comm, List.getElem?_cons_succ, List.getElem?_append_left (get_lt h), h]
theorem Blk.live {w : World} {g : Nat} {t : TypeId} {e s : Nat} {L : List UInt8} (h : Blk w g t (ccs e L s)) (hL : L.length = 32) : Bytes w w.heap.size (.slice (some ⟨g, 1, none⟩) 32 32) L :=
  ⟨_, 32, by rw [hL], by omega, by simp [maxLen], fun j u hu => ⟨_, rfl, h.lt, by
    have ha : (⟨g, 1, none⟩ : Addr).add j = ⟨g, 1 + j, none⟩ := by unfold Addr.add; split <;> simp_all
    rw [ha, h.cell]
    exact ccs_mid hu⟩⟩
set_option maxRecDepth 100000 in
set_option maxHeartbeats 4000000 in
theorem cwrite_any (e s : Nat) (L : List UInt8) (w : World) (hL : L.length = 32) (hs : s < 4294967296) :
    Calls Try.prog 18 #[.agg (ccs e L s).toArray] w fun x w' => ∃ g c, x = .returned (.slice (some ⟨g, 0, none⟩) 44 c) ∧ Own 5 w' w.heap.size (.slice (some ⟨g, 0, none⟩) 44 c) (cb e L s) ∧ Below w.heap.size w w' := by
  obtain ⟨cs, hcs⟩ : ∃ cs, cs = ccs e L s := ⟨_, rfl⟩
  have b1 := Lib.hid ((Below.refl w.heap.size w).alloc (Nat.le_refl _) (.cells cs.toArray 43))
  have B1 : Blk (w.alloc (.cells cs.toArray 43)) w.heap.size 43 cs := heap_alloc_new w _
  have HCS := Lib.hid hcs
  have c0 := B1.cell 0
  have c33 := B1.cell 33
  have hV : Bytes (w.alloc (.cells cs.toArray 43)) (w.alloc (.cells cs.toArray 43)).heap.size (.slice (some ⟨w.heap.size, 1, none⟩) 32 32) L := by
    subst hcs
    exact B1.live hL
  rw [show cs[33]? = some (.int .u32 (s : Int)) by rw [hcs]; exact ccs_last hL] at c33
  rw [show cs[0]? = some (.int .u64 (e : Int)) by rw [hcs]; rfl] at c0
  have hgW0 := Lib.hid B1.lt
  have HV1 := Lib.hid hV
  have hfl : Hid ([numB 8 e, numB 4 s, L].flatten = cb e L s) := Lib.hid (by simp [cb])
  have k1 : ∀ w : World, Calls Try.prog 35 #[.int .i64 8, .int .u64 (e : Int)] w fun x w' => ∃ A c, x = .returned (.slice A 8 c) ∧ Own 5 w' w.heap.size (.slice A 8 c) (numB 8 e) ∧ Below w.heap.size w w' := fun w => num_any 8 e w
  have k2' : ∀ w : World, Calls Try.prog 35 #[.int .i64 4, .int .u64 (IntKind.u64.wrap (s : Int))] w fun e w' => ∃ A c, e = .returned (.slice A 4 c) ∧ Own 5 w' w.heap.size (.slice A 4 c) (numB 4 s) ∧ Below w.heap.size w w' := fun w => by
    rw [show IntKind.u64.wrap (s : Int) = (s : Int) by rw [IntKind.wrap_u64]; omega]
    exact num_any 4 s w
  obtain ⟨g, hg⟩ : ∃ g, g = w.heap.size := ⟨_, rfl⟩
  rw [← hg] at c0 c33 hgW0 HV1
  clear B1 hV
  rw [← hcs]
  clear hcs
  go_enter Try.func18, Try.ntmps18
  go_wp2
  rw [← hg]
  clear hg
  obtain ⟨W, hW⟩ : ∃ W, W = w.alloc (.cells cs.toArray 43) := ⟨_, rfl⟩
  rw [← hW] at b1 c0 c33 HV1 hgW0 ⊢
  clear hW
  have KS : Hid (∀ w', Below W.heap.size W w' → w'.cell? ⟨g, 0, none⟩ = some (.int .u64 (e : Int)) ∧ w'.cell? ⟨g, 33, none⟩ = some (.int .u32 (s : Int))) := Lib.hid fun w' h => ⟨(h.cell (p := ⟨g, 0, none⟩) hgW0.out).trans c0, (h.cell (p := ⟨g, 33, none⟩) hgW0.out).trans c33⟩
  have T1 := Lib.hid (Below.refl W.heap.size W).drew
  go_region_held3 (fun w' => w'.cell? ⟨g, 0, none⟩ = some (.int .u64 (e : Int)) ∧ w'.cell? ⟨g, 33, none⟩ = some (.int .u32 (s : Int)))
    (first | go_keep | (exact KS.out _ T4.out) | (exact KS.out _ T3.out) | (exact KS.out _ T2.out) | (exact KS.out _ T1.out))
    (first
      | (go_at_call 35; (with_reducible refine (k1 _).mono ?_); rintro x w2 ⟨A1, n1, rfl, O1, h1⟩; have P1 := Lib.hid (O1.bytes (by rw [numB_length]; simp [maxLen])); have T2 := Lib.hid (T1.out.trans (h1.mono T1.out.size)); clear O1 h1)
      | (go_at_call 35; (with_reducible refine (k2' _).mono ?_); rintro x w3 ⟨A2, n2, rfl, O2, h2⟩; have P2 := Lib.hid (O2.bytes (by rw [numB_length]; simp [maxLen])); have P1b := Lib.hid ((P1.out.below h2).more h2.size); have T3 := Lib.hid (T2.out.trans (h2.mono T2.out.size)); have V3 := Lib.hid ((HV1.out.below T3.out).more T3.out.size); clear O2 h2)
      | (go_at_call 34; revert P2 P1b T3 V3; intro P2 P1b T3 V3; (refine (join_any _ [numB 8 e, numB 4 s, L] _ (w3.heap.size + 1) (by simp) (Parts.new (Each.cons P1b.out (Each.cons P2.out (Each.cons V3.out Each.nil))) (Nat.le_refl _) (by simp [maxLen]) 3 rfl _ rfl _ (Nat.lt_succ_self _) _ _ rfl) (by rw [hfl.out, cb_length hL]; omega)).mono ?_); rintro x w4 ⟨g4, c4, rfl, hg4, O4, h4⟩; rw [hfl.out] at O4; have T4 := Lib.hid ((T3.out.alloc T3.out.size _).trans (h4.mono (T3.out.alloc T3.out.size _).size)); have O5 := Lib.hid (O4.lower (Nat.le_trans b1.out.size (T3.out.alloc T3.out.size _).size)); clear O4 h4 hg4))
  rw [cb_length hL] at O5
  rw [show (numB 8 e).length + ((numB 4 s).length + 32) = 44 by rw [numB_length, numB_length]]
  go_wp2
  go_ret
  exact ⟨_, _, rfl, O5.out, b1.out.trans (T4.out.mono b1.out.size)⟩
end Go.Proofs.Ytdmganpblkepfaa
