/- The contract of the document's Read where there is a node. No condition but that the bytes are there. -/
import Derived.Test.YtdmganpblkepfaaNodeRead
import Derived.Test.YtdmganpblkepfaaPackReads
import Derived.Test.YtdmganpblkepfaaSegHeld
namespace Go.Proofs.Ytdmganpblkepfaa
open Go.RowKit
theorem row_drop_u8 {w : World} {B : Nat} {a : Addr} {l : List UInt8} (hr : Row w B (some a) (bv l)) (n : Nat) : Row w B (some (a.add n)) (bv (l.drop n)) := fun j u hu => by
  have hu' : (bv l)[n + j]? = some u := by rw [← hu]; simp [bv, List.getElem?_drop]
  obtain ⟨b, e, hb, hc⟩ := hr _ _ hu'
  cases e
  exact ⟨a.add n, rfl, by rw [add_block]; exact hb, by rw [add_twice]; exact hc⟩
theorem node_one (k e : Int) (A : Option Addr) (n c : Nat) : ∀ v ∈ [Value.int .i64 k, .int .u64 e, .slice A n c], v.oneCell' = true := by simp [Value.oneCell']
theorem grown_below {a b c : World} {row : Option Nat} {B : Nat} (h : a.grownBy b row) (k : Below B b c) (hB : a.heap.size ≤ B) : a.grownBy c row :=
  ⟨k.os.trans h.os, k.tape.trans h.tape, k.output.trans h.output, Nat.le_trans h.size k.size, fun i hi hne => (k.block i (by omega)).trans (h.block i hi hne)⟩
theorem Own.kept_low {e : TypeId} {w w' : World} {base q : Nat} {v : Value} {l : List UInt8} (h : Own e w base v l) (hg : w.grownBy w' (some q)) (hq : q < base) : Own e w' base v l := by
  refine h.kept hg ?_
  rcases hx : v.ownBlock with _ | x
  · exact .inl rfl
  · refine .inr fun e => ?_
    have := (World.ownsRow.lt h x hx).1
    cases e
    omega
theorem grown_cell {a b : World} {q : Nat} (h : a.grownBy b (some q)) {p : Addr} (hp : p.block < a.heap.size) (hne : p.block ≠ q) : b.cell? p = a.cell? p :=
  World.cell?_of_block (h.block p.block hp (by simpa using hne))
set_option maxRecDepth 100000 in
set_option maxHeartbeats 4000000 in
theorem nrefread_yes (v : Value) (l : List UInt8) (w : World) (hv : Bytes w w.heap.size v l) (h1 : 9 ≤ l.length) (h2 : l.length ≤ 233) :
    Calls Try.prog 17 #[v] w fun x w' => ∃ A n c, x = .returned (.tuple #[.agg #[.int .i64 (nkey l : Int), .int .u64 (nepoch l : Int), .slice A n c], .int .i64 0]) ∧ Own 5 w' w.heap.size (.slice A n c) (l.drop 9) ∧ Below w.heap.size w w' := by
  obtain ⟨A, c, rfl, hc, hm, hr⟩ := id hv
  have HV := Lib.hid hv
  unfold maxLen at hm
  clear hv
  obtain ⟨a, rfl, ha, hcell⟩ := hr.at_ (k := 0) (by rw [bv_length]; omega)
  have HR := Lib.hid hr
  have hb0 : (bv l)[0]? = some (.int .u8 (nkey l : Int)) := by
    rw [bv, List.getElem?_map, List.getElem?_eq_getElem (by omega)]
    simp only [Option.map_some, Option.some.injEq, Value.int.injEq, true_and]
    unfold nkey
    rw [show l.take 1 = [l[0]] by rw [List.take_one, List.head?_eq_getElem?, List.getElem?_eq_getElem (by omega)]; rfl]
    simp [le]
  rw [List.getElem?_eq_getElem (by rw [bv_length]; omega)] at hb0
  rw [Option.some.inj hb0, show a.add 0 = a by simp [Addr.add]] at hcell
  clear hb0 hr
  have hk1 := nkey_lt l
  obtain ⟨kk, hkk⟩ : ∃ kk, kk = nkey l := ⟨_, rfl⟩
  obtain ⟨ee, hee⟩ : ∃ ee, ee = nepoch l := ⟨_, rfl⟩
  rw [← hkk] at hk1 hcell
  have HKK := Lib.hid hkk
  have HEE := Lib.hid hee
  clear hkk hee
  have d1 : decide ((l.length : Int) < 9) = false := by simp; omega
  have d2 : decide ((233 : Int) < (l.length : Int)) = false := by simp; omega
  have b0 := (Below.refl w.heap.size w).alloc (Nat.le_refl _) (.cells #[.int .i64 0, .int .u64 0, .slice none 0 0] 25)
  have B0 : Blk (w.alloc (.cells #[.int .i64 0, .int .u64 0, .slice none 0 0] 25)) w.heap.size 25 [.int .i64 0, .int .u64 0, .slice none 0 0] := heap_alloc_new w _
  have b1 := Lib.hid (b0.alloc b0.size (.cells #[.slice (some a) l.length c, .int .i64 1, .bool false] 79))
  have B1 := Lib.hid (B0.alloc (.cells #[.slice (some a) l.length c, .int .i64 1, .bool false] 79))
  have z1 : ((w.alloc (.cells #[.int .i64 0, .int .u64 0, .slice none 0 0] 25)).alloc (.cells #[.slice (some a) l.length c, .int .i64 1, .bool false] 79)).heap.size = w.heap.size + 1 + 1 := by simp
  have Z1 := Lib.hid z1
  have E1 : Hid (Ey ((w.alloc (.cells #[.int .i64 0, .int .u64 0, .slice none 0 0] 25)).alloc (.cells #[.slice (some a) l.length c, .int .i64 1, .bool false] 79)) (w.heap.size + 1) w.heap.size l 1 false) :=
    Lib.hid ⟨by omega, by omega, some a, c, hc, by unfold maxLen; omega, by have h := heap_alloc_new (w.alloc (.cells #[.int .i64 0, .int .u64 0, .slice none 0 0] 25)) (.cells #[.slice (some a) l.length c, .int .i64 1, .bool false] 79); simpa using h, HR.out.below b1.out⟩
  have C1 := (b1.out.cell (p := a) ha).trans hcell
  have R1 := Lib.hid (HR.out.below b1.out)
  have EN : Hid (∀ w', Ey w' (w.heap.size + 1) w.heap.size l 1 false → Calls Try.prog 40 #[.pointer (some ⟨w.heap.size + 1, 0, none⟩), .int .i64 8] w' fun e w'' => e = .returned (.int .u64 (ee : Int)) ∧ w'.grownBy w'' (some (w.heap.size + 1))) := Lib.hid fun w' he => by
    have h := enum_yes (w.heap.size + 1) w.heap.size l 1 false 8 w' he (by show 1 + 8 ≤ _; omega) (by omega)
    rw [show wid 8 = 8 by decide, show le ((l.drop 1).take 8) = ee by rw [HEE.out]; rfl] at h
    exact h.mono fun _ _ ⟨x, _, y⟩ => ⟨x, y⟩
  have kk2 : (kk : Int) < 256 := by omega
  have hcl : (9 : Int) ≤ (l.length : Int) := by omega
  have hcl0 : 0 < l.length := by omega
  have hcl2 : (l.length : Int) ≤ (c : Int) := by omega
  clear b0 B0 z1 hcell
  go_enter Try.func17, Try.ntmps17
  go_wp2_with fail
  obtain ⟨W, hW⟩ : ∃ W, W = ((w.alloc (.cells #[.int .i64 0, .int .u64 0, .slice none 0 0] 25)).alloc (.cells #[.slice (some a) l.length c, .int .i64 1, .bool false] 79)) := ⟨_, rfl⟩
  rw [← hW] at b1 B1 Z1 E1 C1 R1 ⊢
  have ha2 : a.block < W.heap.size := by have := Z1.out; omega
  have ha3 : a.block ≠ w.heap.size + 1 := by omega
  clear hW
  have KS : Hid (∀ w', W.grownBy w' (some (w.heap.size + 1)) → w'.cell? a = some (.int .u8 (kk : Int))) := Lib.hid fun w' h => (grown_cell h ha2 ha3).trans C1
  have KR : Hid (∀ w', W.grownBy w' (some (w.heap.size + 1)) → Row w' w.heap.size (some (a.add 9)) (bv (l.drop 9))) := Lib.hid fun w' h => row_drop_u8 (R1.out.keep fun p hp => grown_cell h (by have := Z1.out; omega) (by omega)) 9
  have KE : Hid (∀ w', Below W.heap.size W w' → Ey w' (w.heap.size + 1) w.heap.size l 1 false) := Lib.hid fun w' h => E1.out.keep (h.block _ (by have := Z1.out; omega)) fun p hp => h.cell (by have := Z1.out; omega)
  have T0 := Lib.hid (Below.refl W.heap.size W).drew
  have T1 : Hid (Below W.heap.size W (W.alloc (.cells #[] 5)).drew) := Lib.hid ((Below.refl W.heap.size W).alloc (Nat.le_refl _) _).drew
  have O0 : Hid (Own 5 (W.alloc (.cells #[] 5)).drew W.heap.size (.slice (some ⟨W.heap.size, 0, none⟩) 0 0) []) := Lib.hid (Own.made (e := 5) (base := W.heap.size) #[] 0 (Nat.le_refl _) (by simp) rfl W.heap.size rfl)
  have ww1 : IntKind.i64.wrap (kk : Int) = (kk : Int) := by rw [IntKind.wrap_i64]; omega
  have KB : Hid (∀ w', W.grownBy w' (some (w.heap.size + 1)) → Blk w' w.heap.size 25 [.int .i64 0, .int .u64 0, .slice none 0 0]) := Lib.hid fun w' h => B1.out.grown h (by simp)
  have KT : Hid (∀ w' w'', W.grownBy w' (some (w.heap.size + 1)) → w'.grownBy w'' (some w.heap.size) → w''.cell? a = some (.int .u8 (kk : Int))) := Lib.hid fun w' w'' h k => (grown_cell k (Nat.lt_of_lt_of_le ha2 h.size) (by omega)).trans (KS.out w' h)
  have Z0 := Lib.hid (show w.heap.size + 1 < W.heap.size by have := Z1.out; omega)
  have KO : Hid (∀ w' w'', w'.grownBy w'' (some (w.heap.size + 1)) → Own 5 w' W.heap.size (.slice (some ⟨W.heap.size, 0, none⟩) 0 0) [] → Own 5 w'' W.heap.size (.slice (some ⟨W.heap.size, 0, none⟩) 0 0) []) := Lib.hid fun w' w'' h o => o.kept h (.inr (by show some W.heap.size ≠ some (w.heap.size + 1); have := Z0.out; simp; omega))
  clear ha2 ha3
  have hl9 : (l.drop 9).length = l.length - 9 := List.length_drop
  by_cases hc9 : c = 9
  · subst hc9
    have hl10 : (l.length : Int) = 9 := by omega
    have V9 : Hid (∀ w', W.grownBy w' (some (w.heap.size + 1)) → Bytes w' w.heap.size (.slice (some a) 0 0) (l.drop 9)) := Lib.hid fun w' h => ⟨some a, 0, by rw [hl9, show l.length - 9 = 0 by omega], by omega, by simp [maxLen], by rw [show l.drop 9 = [] from List.eq_nil_of_length_eq_zero (by omega)]; exact Row.nil⟩
    clear hl10
    go_region_held3 (fun w' => w'.cell? a = some (.int .u8 (kk : Int)))
      (first | go_keep | (exact KT.out _ _ T3.out (only_trans (only_trans (only_set _ ⟨w.heap.size, 0, none⟩ _) (only_set _ ⟨w.heap.size, 1, none⟩ _)) (only_set _ ⟨w.heap.size, 2, none⟩ _))) | (exact KS.out _ T3.out) | (exact KS.out _ T2.out) | (exact KS.out _ T2b.out) | (exact KS.out _ (only_of_below T1.out _)) | (exact KS.out _ (only_of_below T0.out _)))
      (first
        | (go_at_call 40; (with_reducible refine (EN.out _ (KE.out _ T1.out)).mono ?_); rintro x w2 ⟨rfl, h1⟩; have T2 := Lib.hid (only_trans (only_of_below T1.out _) h1); have Q2 := Lib.hid (KO.out _ _ h1 O0.out); clear h1)
        | (go_at_call 40; (with_reducible refine (EN.out _ (KE.out _ T0.out)).mono ?_); rintro x w2 ⟨rfl, h1⟩; have T2b := Lib.hid (only_trans (only_of_below T0.out _) h1); have T2 := Lib.hid (only_alloc T2b.out (.cells #[] 5)); have Q2 := Lib.hid (Own.made (e := 5) (base := W.heap.size) #[] 0 T2b.out.size (by simp) rfl w2.heap.size rfl); clear h1)
        | (revert T2 Q2; intro T2 Q2; refine step_append_bytes byteTys (by rfl) (.tmp 23) (.tmp 25) (by rfl) (by rfl) Q2.out _ _ _ (by rfl) (V9.out _ T2.out) (by rw [hl9]; simp; omega) T2.out.size 0 (by rw [hl9]; simp; omega) ?_; intro A3 c3 w3 O3 g3; have T3 := Lib.hid (grown_below T2.out g3 (Nat.le_refl _)); have Q3 := Lib.hid O3; have B3 := Lib.hid (KB.out _ T3.out); have k30 := B3.out.cell 0; have k31 := B3.out.cell 1; have k32 := B3.out.cell 2; have f30 := B3.out.free 0; have f31 := B3.out.free 1; have f32 := B3.out.free 2; simp only [List.getElem?_cons_zero, List.getElem?_cons_succ] at k30 k31 k32; clear O3 g3))
    all_goals
      have g4 := only_trans (only_trans (only_set w3 ⟨w.heap.size, 0, none⟩ (.int .i64 (kk : Int))) (only_set _ ⟨w.heap.size, 1, none⟩ (.int .u64 (ee : Int)))) (only_set _ ⟨w.heap.size, 2, none⟩ (.slice A3 0 c3))
      have B4 := ((B3.out.set 0 (.int .i64 (kk : Int))).set 1 (.int .u64 (ee : Int))).set 2 (.slice A3 0 c3)
      have Q4 := Lib.hid (Q3.out.kept_low g4 (by have := Z0.out; show w.heap.size < W.heap.size; omega))
      have T4 := Lib.hid ((b1.out.grown T3.out b1.out.size (fun k e => by cases e; omega)).grown g4 (Nat.le_trans b1.out.size T3.out.size) (fun k e => by cases e; exact Nat.le_refl _))
      clear g4
      go_wp2
      refine bodyPost_ret (nret2 rfl _ B4 rfl rfl) rfl ?_
      rw [← HKK.out, ← HEE.out]
      exact ⟨_, _, _, rfl, Q4.out.lower b1.out.size, T4.out⟩
  · have V9 : Hid (∀ w', W.grownBy w' (some (w.heap.size + 1)) → Bytes w' w.heap.size (.slice (some ⟨a.block, a.off + 9, none⟩) (l.length - 9) (c - 9)) (l.drop 9)) := Lib.hid fun w' h => ⟨some (a.add 9), c - 9, by rw [hl9]; simp [Addr.add], by omega, by simp only [maxLen]; omega, KR.out w' h⟩
    go_region_held3 (fun w' => w'.cell? a = some (.int .u8 (kk : Int)))
      (first | go_keep | (exact KT.out _ _ T3.out (only_trans (only_trans (only_set _ ⟨w.heap.size, 0, none⟩ _) (only_set _ ⟨w.heap.size, 1, none⟩ _)) (only_set _ ⟨w.heap.size, 2, none⟩ _))) | (exact KS.out _ T3.out) | (exact KS.out _ T2.out) | (exact KS.out _ T2b.out) | (exact KS.out _ (only_of_below T1.out _)) | (exact KS.out _ (only_of_below T0.out _)))
      (first
        | (go_at_call 40; (with_reducible refine (EN.out _ (KE.out _ T1.out)).mono ?_); rintro x w2 ⟨rfl, h1⟩; have T2 := Lib.hid (only_trans (only_of_below T1.out _) h1); have Q2 := Lib.hid (KO.out _ _ h1 O0.out); clear h1)
        | (go_at_call 40; (with_reducible refine (EN.out _ (KE.out _ T0.out)).mono ?_); rintro x w2 ⟨rfl, h1⟩; have T2b := Lib.hid (only_trans (only_of_below T0.out _) h1); have T2 := Lib.hid (only_alloc T2b.out (.cells #[] 5)); have Q2 := Lib.hid (Own.made (e := 5) (base := W.heap.size) #[] 0 T2b.out.size (by simp) rfl w2.heap.size rfl); clear h1)
        | (revert T2 Q2; intro T2 Q2; refine step_append_bytes byteTys (by rfl) (.tmp 23) (.tmp 25) (by rfl) (by rfl) Q2.out _ _ _ (by rfl) (V9.out _ T2.out) (by rw [hl9]; simp; omega) T2.out.size (l.length - 9) (by rw [hl9]; simp) ?_; intro A3 c3 w3 O3 g3; have T3 := Lib.hid (grown_below T2.out g3 (Nat.le_refl _)); have Q3 := Lib.hid O3; have B3 := Lib.hid (KB.out _ T3.out); have k30 := B3.out.cell 0; have k31 := B3.out.cell 1; have k32 := B3.out.cell 2; have f30 := B3.out.free 0; have f31 := B3.out.free 1; have f32 := B3.out.free 2; simp only [List.getElem?_cons_zero, List.getElem?_cons_succ] at k30 k31 k32; clear O3 g3))
    all_goals
      have g4 := only_trans (only_trans (only_set w3 ⟨w.heap.size, 0, none⟩ (.int .i64 (kk : Int))) (only_set _ ⟨w.heap.size, 1, none⟩ (.int .u64 (ee : Int)))) (only_set _ ⟨w.heap.size, 2, none⟩ (.slice A3 (l.length - 9) c3))
      have B4 := ((B3.out.set 0 (.int .i64 (kk : Int))).set 1 (.int .u64 (ee : Int))).set 2 (.slice A3 (l.length - 9) c3)
      have Q4 := Lib.hid (Q3.out.kept_low g4 (by have := Z0.out; show w.heap.size < W.heap.size; omega))
      have T4 := Lib.hid ((b1.out.grown T3.out b1.out.size (fun k e => by cases e; omega)).grown g4 (Nat.le_trans b1.out.size T3.out.size) (fun k e => by cases e; exact Nat.le_refl _))
      clear g4
      go_wp2
      refine bodyPost_ret (nret2 rfl _ B4 rfl rfl) rfl ?_
      rw [← HKK.out, ← HEE.out]
      exact ⟨_, _, _, rfl, Q4.out.lower b1.out.size, T4.out⟩
end Go.Proofs.Ytdmganpblkepfaa
