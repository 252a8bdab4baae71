/- bytes.Repeat of one byte, 258 times. No condition. -/
import Derived.Test.YtdiocjneakfdgaaGreatDoorQFrame
import Derived.Test.YtdiocjneakfdgaaGreatDoorQCore
import Derived.Test.YtdiocjneakfdgaaGreatDoorQWear
import Derived.Lib.MakeNoZero
import Derived.BigRegion
import Derived.Deep.QuietTactic
import Derived.BigQuiet
namespace Go.Proofs.YtdiocjneakfdgaaGreatDoor
open Go.RowKit
set_option maxRecDepth 100000 in
set_option maxHeartbeats 8000000 in
theorem mul64_one (w : World) : Calls Tryz.prog 133 #[.int .u64 1, .int .u64 258] w fun e w' => e = .returned (.tuple #[.int .u64 0, .int .u64 258]) ∧ w = w' := by
  have b1 : bits .and .u64 1 4294967295 = 1 := by kernel_rfl
  have b2 : bits .and .u64 258 4294967295 = 258 := by kernel_rfl
  have b3 : bits .and .u64 0 4294967295 = 0 := by kernel_rfl
  go_enter Tryz.func133, Tryz.ntmps133
  go_wp2
  go_ret2
  exact ⟨rfl, rfl⟩
theorem mul_one' (w : World) : Calls Tryz.prog 115 #[.int .u64 1, .int .u64 258] w fun e w' => e = .returned (.tuple #[.int .u64 0, .int .u64 258]) ∧ w = w' := by
  go_enter Tryz.func115, Tryz.ntmps115
  go_wp2_with (go_at_call 133; ((with_reducible refine (mul64_one _).mono ?_); rintro e w2 ⟨rfl, rfl⟩))
  go_ret2
  exact ⟨rfl, rfl⟩
/-- a buffer of bytes of which the first n are 255 -/
def FB (w : World) (gn n cap : Nat) : Prop := ∃ cur : Array Value, w.heap[gn]? = some (.cells cur 5 (0, 0)) ∧ cur.size = cap ∧ ∀ i, i < n → cur[i]? = some (.int .u8 255)
theorem FB.cell {w : World} {gn n cap : Nat} (h : FB w gn n cap) {i : Nat} (hi : i < n) : w.cell? ⟨gn, i, none⟩ = some (.int .u8 255) := by
  obtain ⟨cur, h1, _, h3⟩ := h
  unfold World.cell?
  simp only [h1, h3 i hi]
  rfl
theorem fb_copy {w : World} {gn n cap : Nat} (hB : FB w gn n cap) {dl dc sl sc k : Nat} {a : Addr} {T ty : TypeId} (hT : OneCell Tryz.prog T 5 (.int .u8 0) 1) (hsrc : ∀ i, i < k → w.cell? (a.add i) = some (.int .u8 255)) (hk : k = Nat.min sl dl) (hfit : n + k ≤ cap) :
    ∃ w', (Builtin.copy_ #[T, T] ty #[.slice (some ⟨gn, n, none⟩) dl dc, .slice (some a) sl sc]).run Tryz.prog w = .ok (.int .i64 (k : Int)) w' ∧ FB w' gn (n + k) cap ∧ w.grownBy w' (some gn) ∧ w'.heap.size = w.heap.size := by
  obtain ⟨i, hi, _, hs, _⟩ := hT.hi
  have hsz : (Tryz.prog.info? 5).map (·.size) = some 1 := by rw [hi]; simp [hs]
  obtain ⟨cur, h1, h2, h3⟩ := hB
  have hcs : (List.replicate k (Value.int .u8 255)).length = k := List.length_replicate ..
  have hrun := run_copy_row (P := Tryz.prog) w T T ty 5 gn n dl dc a sl sc cur 5 (List.replicate k (.int .u8 255)) hT.ht hsz h1 (by rw [hcs]; exact hk) (fun j v hj => by
    rw [List.getElem?_replicate] at hj
    split at hj
    · cases hj; exact hsrc j ‹_›
    · cases hj) (by rw [hcs]; omega) (fun v hv => by rw [List.eq_of_mem_replicate hv]; rfl)
  rw [hcs] at hrun
  refine ⟨_, hrun, ⟨_, setRow_heap w gn cur _ 5 _ h1, ?_, fun i hi => ?_⟩, ⟨rfl, rfl, rfl, by simp, fun k _ hk => setRow_other w gn k _ (by simpa using hk)⟩, by simp⟩
  · simp; omega
  · rw [List.getElem?_toArray]
    by_cases c : i < n
    · rw [List.append_assoc, List.getElem?_append_left (by simp; omega), List.getElem?_take, if_pos c]
      have := h3 i c
      rwa [← Array.getElem?_toList] at this
    · rw [List.getElem?_append_left (by simp; omega), List.getElem?_append_right (by simp; omega), List.getElem?_replicate, if_pos (by simp; omega)]
theorem step_fb {w : World} {gn n cap : Nat} {ops : Array Oper} {o : Oper} {act : Act} {K : Act → World → Prop} {Q : Exit → Act → World → Prop} {F : Prop} {T : TypeId} (hT : OneCell Tryz.prog T 5 (.int .u8 0) 1) (hgd : Region.wanted o (yielded ops act.tmps) = true) (d s : Operand)
    (ho : o.op = .call { callee := .builtin .copy, args := #[d, s], argTypes := #[T, T] }) (hB : FB w gn n cap) (dl dc sl sc : Nat) (hd : act.eval d = .slice (some ⟨gn, n, none⟩) dl dc) (hs : act.eval s = .slice (some ⟨gn, 0, none⟩) sl sc) (hsl : sl ≤ n) (k : Nat) (hk : k = Nat.min sl dl) (hfit : n + k ≤ cap)
    (h : ∀ w', FB w' gn (n + k) cap → w.grownBy w' (some gn) → w'.heap.size = w.heap.size → K (act.put o.dst (.int .i64 (k : Int))) w') :
    if Region.wanted o (yielded ops act.tmps) = true then Oper.wp Tryz.prog o act w K Q else F := by
  rw [if_pos hgd]
  have hkl : k ≤ n := by rw [hk]; exact Nat.le_trans (Nat.min_le_left _ _) hsl
  obtain ⟨w', hrun, h1, h2, h3⟩ := fb_copy (ty := o.type) (dc := dc) (sc := sc) hB hT (a := ⟨gn, 0, none⟩) (fun i hi => by
    have ha : (⟨gn, 0, none⟩ : Addr).add i = ⟨gn, i, none⟩ := by unfold Addr.add; split <;> simp_all
    rw [ha]; exact hB.cell (by omega)) hk hfit
  unfold Oper.wp execOp
  simp only [ho, resolve, invoke, builtin, Sem.run_bind, Sem.run_pure, Result.andThen_ok, List.map_toArray, List.map_cons, List.map_nil, hd, hs, hrun]
  exact h w' h1 h2 h3
theorem byteTyR : OneCell Tryz.prog 62 5 (.int .u8 0) 1 := OneCell.mk' Tryz.underlying62 (by kernel_rfl) (by decide)
set_option maxRecDepth 100000 in
set_option maxHeartbeats 8000000 in
theorem repeat_any (w : World) (A : Addr) (c : Nat) (hA : A.block < w.heap.size) (hc : w.cell? A = some (.int .u8 255)) :
    Calls Tryz.prog 87 #[.slice (some A) 1 c, .int .i64 258] w fun e w' => ∃ gn cap, e = .returned (.slice (some ⟨gn, 0, none⟩) 258 258) ∧ FB w' gn 258 cap ∧ Below w.heap.size w w' := by
  obtain ⟨cs, hrunM, hle, _⟩ := Lib.run_makeNoZero (P := Tryz.prog) w #[3] 62 5 Tryz.underlying62 258 (by omega)
  have hcall : (callFunc 116 #[.int .i64 258]).run Tryz.prog w = .ok (.value (.slice (some ⟨w.heap.size, 0, none⟩) 258 cs.size)) ((w.alloc (.cells cs 5)).drewN 2) := by
    rw [run_callFunc_extern Tryz.func116 (by kernel_rfl) (by kernel_rfl) (by kernel_rfl) (e := Extern.BytealgMakeNoZero.makeNoZero #[3] #[62]) (by kernel_rfl)]
    have hr : (Extern.BytealgMakeNoZero.makeNoZero #[3] #[62] #[.int .i64 258]).run Tryz.prog w = .ok (.slice (some ⟨w.heap.size, 0, none⟩) 258 cs.size) (w.drew.drew.alloc (.cells cs 5)) := hrunM
    rw [hr]
    rfl
  clear hrunM
  have i1 : (258 : Int) ≤ (cs.size : Int) := by omega
  have F0 := Lib.hid (show FB ((w.alloc (.cells cs 5)).drewN 2) w.heap.size 0 cs.size from ⟨cs, heap_alloc_new w _, rfl, fun i hi => absurd hi (Nat.not_lt_zero _)⟩)
  have b0 := Lib.hid (show Below w.heap.size w ((w.alloc (.cells cs 5)).drewN 2) from ((Below.refl w.heap.size w).alloc (Nat.le_refl _) _).drew.drew)
  have hc0 := Lib.hid (show ((w.alloc (.cells cs 5)).drewN 2).cell? (A.add 0) = some (.int .u8 255) by
    have ha : A.add 0 = A := by unfold Addr.add; split <;> simp_all
    rw [ha]; exact (b0.out.cell hA).trans hc)
  obtain ⟨V, hV⟩ : ∃ V, (w.alloc (.cells cs 5)).drewN 2 = V := ⟨_, rfl⟩
  obtain ⟨cz, hcz⟩ : ∃ cz, cs.size = cz := ⟨_, rfl⟩
  rw [hV] at F0 b0 hc0 hcall
  rw [hcz] at F0 hcall i1
  have hz : 258 ≤ cz := by omega
  clear hV hcz hle hc
  obtain ⟨V3, hr3, f3, g3, _⟩ := fb_copy (ty := 3) (k := 1) (sl := 1) (sc := c) (dl := 258) (dc := 258) F0.out byteTyR (a := A) (fun i hi => (show i = 0 by omega) ▸ hc0.out) rfl (by omega)
  have hr3' : (Builtin.copy_ #[62, 62] 3 #[.slice (some ⟨w.heap.size, 0, none⟩) 258 258, .slice (some A) 1 c]).run Tryz.prog V = .ok (.int .i64 1) V3 := hr3
  have F3 := Lib.hid (show FB V3 w.heap.size 1 cz from f3)
  have B3 := Lib.hid (b0.out.grown g3 b0.out.size (fun k e => by cases e; exact Nat.le_refl _))
  clear hr3 f3 g3
  go_enter Tryz.func87, Tryz.ntmps87
  go_wp2_with (go_at_call 115; ((with_reducible refine (mul_one' _).mono ?_); rintro e w2 ⟨rfl, rfl⟩))
  obtain ⟨g0, hg0⟩ : ∃ g0, w.heap.size = g0 := ⟨_, rfl⟩
  have HG0 := Lib.hid hg0
  rw [hg0] at F3 ⊢
  clear F0 hc0 hcall hg0 hr3'
  go_loopw [10, 11] (fun vn _ wr => ∃ n : Nat, vn = .int .i64 (n : Int) ∧ 1 ≤ n ∧ n ≤ 258 ∧ Hid (FB wr g0 n cz) ∧ Hid (Below w.heap.size w wr)) (fun vn _ _ => 258 - (intOf vn).toNat)
  case atStart => exact ⟨1, rfl, by omega, by omega, F3, B3⟩
  case round =>
    obtain ⟨n, rfl, hn1, hn2, FN, BN⟩ := hrel
    by_cases hlt : n < 258
    · obtain ⟨m, hm⟩ : ∃ m, 258 - n = m := ⟨_, rfl⟩
      have e1 : (258 : Int) - (n : Int) = (m : Int) := by omega
      obtain ⟨k, hk⟩ : ∃ k, Nat.min n m = k := ⟨_, rfl⟩
      have hk1 : 1 ≤ k ∧ k ≤ n ∧ k ≤ m := by
        have : min n m = k := hk
        omega
      have HK := Lib.hid hk.symm
      have hnm : n + m = 258 := by omega
      have hnz : n + k ≤ cz := by omega
      clear hm hk
      have jw : IntKind.i64.wrap ((n : Int) + (k : Int)) = ((n + k : Nat) : Int) := (_root_.Go.wrap_small ((n : Int) + (k : Int)) (by omega) (by omega)).trans (by omega)
      have j0 : (0 : Int) ≤ (n : Int) := by omega
      have j1 : (n : Int) ≤ 258 := by omega
      have j2 : (n : Int) < 258 := by omega
      have j3 : (258 - n : Nat) = m := by omega
      have j4 : ((258 : Int) - (n : Int)).toNat = m := by omega
      go_wp2
      go_region_held3 (fun _ => True) (trivial) ((refine step_fb byteTyR (by rfl) (.tmp 70) (.tmp 73) (by rfl) FN.out m m n 258 (by show Value.slice (if 258 = n then some (⟨g0, 0, none⟩ : Addr) else some ⟨g0, n, none⟩) m m = _; rw [if_neg (by omega)]) (by rfl) (Nat.le_refl _) k HK.out hnz ?_; intro w5 f5 g5 e5; have F5 := Lib.hid f5; have B5 := Lib.hid (BN.out.drew.grown g5 BN.out.size (fun k e => by cases e; rw [HG0.out]; exact Nat.le_refl _)); clear f5 g5 e5))
      all_goals go_wp2
      go_roundw
      case rel => exact ⟨n + k, rfl, by omega, by omega, F5, B5⟩
      case measure => simp [intOf]; omega
    · obtain rfl : n = 258 := by omega
      go_wp2
      go_ret
      exact ⟨g0, cz, rfl, FN.out, BN.out⟩
end Go.Proofs.YtdiocjneakfdgaaGreatDoor

