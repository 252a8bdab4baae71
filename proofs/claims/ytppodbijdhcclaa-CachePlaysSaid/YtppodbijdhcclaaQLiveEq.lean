/- Two arrays of bytes compared whole; and an array of bytes as an argument. No condition. -/
import Derived.Test.YtppodbijdhcclaaQLiveArr
import Derived.ProofKit
import Derived.OpenShut
import Derived.Deep.RegionHeld
namespace Go.Proofs.Ytppodbijdhcclaa
open Go.RowKit

/-- the model's loop over the places, at a list of places -/
def leqAt (L M : List UInt8) : List Nat → Bool
  | [] => true
  | i :: r => if L.getD i 0 = M.getD i 0 then leqAt L M r else false
theorem leqAt_iff (L M : List UInt8) : ∀ l, leqAt L M l = true ↔ ∀ i, i ∈ l → L.getD i 0 = M.getD i 0
  | [] => by simp [leqAt]
  | i :: r => by
    have ih := leqAt_iff L M r
    simp only [leqAt, List.mem_cons]
    by_cases h : L.getD i 0 = M.getD i 0
    · rw [if_pos h, ih]
      constructor
      · intro k j hj
        rcases hj with rfl | hj
        · exact h
        · exact k j hj
      · intro k j hj
        exact k j (.inr hj)
    · rw [if_neg h]
      constructor
      · intro k; cases k
      · intro k; exact absurd (k i (.inl rfl)) h
theorem leqAt_all {L M : List UInt8} (hL : L.length = 32) (hM : M.length = 32) : leqAt L M (List.range' 0 32) = decide (L = M) := by
  rw [Bool.eq_iff_iff, leqAt_iff, decide_eq_true_iff]
  constructor
  · intro h
    apply List.ext_getElem (by rw [hL, hM])
    intro i h1 h2
    have := h i (by rw [List.mem_range'_1]; omega)
    simpa [List.getD_eq_getElem?_getD, h1, h2] using this
  · intro h i _
    rw [h]
theorem part_at {L : List UInt8} (hL : L.length = 32) {k : Nat} (hk : k < 32) (w : World) : (part 5 (cl L) k).run Try.prog w = .ok (.int .u8 (((L.getD k 0).toNat : Nat) : Int)) w := by
  have h1 : (isAgg 5).run Try.prog w = .ok false w := by kernel_rfl
  have hc := cl_get (l := L) (k := k) (by omega)
  have e : L.getD k 0 = L[k] := by rw [List.getD_eq_getElem?_getD, List.getElem?_eq_getElem (by omega), Option.getD_some]
  simp only [part, Sem.run_bind, h1, Result.andThen_ok, hc, Bool.false_eq_true, if_false, Sem.run_pure, e]
theorem lequalIn_two (d : Nat) {L M : List UInt8} (hL : L.length = 32) (hM : M.length = 32) (w : World) : (Op.equalIn (d + 2) 53 (.agg (cl L)) (.agg (cl M))).run Try.prog w = .ok (decide (L = M)) w := by
  have h2 : (sizeOf 5).run Try.prog w = .ok 1 w := by kernel_rfl
  show (Op.equalIn ((d + 1) + 1) _ _ _).run _ _ = _
  rw [Op.equalIn]
  rw [Sem.run_bind, run_underlying Try.underlying53, Result.andThen_ok]
  dsimp only
  rw [Sem.run_bind, h2, Result.andThen_ok]
  have key : ∀ l : List Nat, (∀ i ∈ l, i < 32) → (forIn (m := Sem) l ((none, ()) : Option Bool × Unit) fun i __s => do
              let __do_lift ← part 5 (cl L) (i * 1)
              let __do_lift_1 ← part 5 (cl M) (i * 1)
              let __do_lift ← Op.equalIn (d + 1) 5 __do_lift __do_lift_1
              if (!__do_lift) = true then pure (ForInStep.done (some false, ())) else pure (ForInStep.yield (none, ()))).run Try.prog w = .ok (if leqAt L M l then (none, ()) else (some false, ())) w := by
    intro l
    induction l with
    | nil => intro _; rfl
    | cons i r ih =>
      intro hi
      have h256 : i < 32 := hi i (List.mem_cons_self)
      have ih' := ih (fun j hj => hi j (List.mem_cons_of_mem _ hj))
      rw [List.forIn_cons]
      simp only [Sem.run_bind, Nat.mul_one, part_at hL h256, part_at hM h256, Result.andThen_ok, run_equalIn_int w d 5 .u8 .u8 _ _ Try.underlying5]
      by_cases e : L.getD i 0 = M.getD i 0
      · have e2 : ((((L.getD i 0).toNat : Nat) : Int) == (((M.getD i 0).toNat : Nat) : Int)) = true := by rw [e]; simp
        simp only [e2, leqAt, if_pos e, Bool.not_true, Bool.false_eq_true, if_false, Sem.run_pure, Result.andThen_ok]
        simpa only [Nat.mul_one] using ih'
      · have e2 : ((((L.getD i 0).toNat : Nat) : Int) == (((M.getD i 0).toNat : Nat) : Int)) = false := by
          rw [beq_eq_false_iff_ne]
          intro k
          exact e (UInt8.toNat_inj.1 (Int.ofNat.inj k))
        simp only [e2, leqAt, if_neg e, Bool.not_false, if_true, Sem.run_pure, Result.andThen_ok, Bool.false_eq_true, if_false]
  have k2 := key (List.range' 0 32) (fun i hi => by rw [List.mem_range'_1] at hi; omega)
  rw [leqAt_all hL hM] at k2
  rw [Sem.run_bind]
  simp only [Std.Legacy.Range.forIn_eq_forIn_range', Std.Legacy.Range.size, Nat.sub_zero, Nat.add_sub_cancel, Nat.div_one]
  rw [k2, Result.andThen_ok]
  by_cases e : L = M
  · rw [decide_eq_true e]
    rfl
  · rw [decide_eq_false e]
    rfl
theorem equalIn_lcl {L M : List UInt8} (hL : L.length = 32) (hM : M.length = 32) (w : World) : (Op.equalIn 10000 53 (.agg (cl L)) (.agg (cl M))).run Try.prog w = .ok (decide (L = M)) w := lequalIn_two 9998 hL hM w

/-- a whole array is loaded in a region that draws its order: it may be taken first -/
theorem yields_lload {ops : Array Oper} {o : Oper} {a : Act} {g : Nat} {L : List UInt8} {S : World → Prop} (x : Operand) (ho : o.op = .load 53 x) (hgd : Region.wanted o (yielded ops a.tmps) = true)
    (hx : a.eval x = .pointer (some ⟨g, 0, none⟩)) (hS : ∀ w, S w → LArr w g L) : YieldsIf Try.prog ops S o (.agg (cl L)) a :=
  .inl ⟨hgd, fun w hw => by
    unfold execOp
    simp only [ho, hx, Instr.loadAt, Instr.sureAddr, Sem.run_bind, Sem.run_pure, Result.andThen_ok, (hS w hw).load]⟩
/-- a whole array is stored, at the operation itself -/
theorem op_lstore {o : Oper} {a : Act} {w : World} {K : Act → World → Prop} {Q : Exit → Act → World → Prop} {g : Nat} {L L' : List UInt8} (x y : Operand) (ho : o.op = .store 53 x y)
    (hA : LArr w g L) (hx : a.eval x = .pointer (some ⟨g, 0, none⟩)) (hL : L'.length = 32) (hy : a.eval y = .agg (cl L'))
    (h : ∀ w', LArr w' g L' → w.grownBy w' (some g) → K (a.put o.dst undef) w') : o.wp Try.prog a w K Q := by
  have hs : (storeVar 53 ⟨g, 0, none⟩ (.agg (cl L'))).run Try.prog w = .ok () (w.setRow g (cl L')) :=
    run_storeVar_row w g _ _ (cl L) (cl L') hA.1 (by rw [cl_size, hL]; exact sizeLive) (by rw [cl_size, cl_size, hA.2, hL]) (cl_one L')
  unfold Oper.wp execOp
  simp only [ho, hx, hy, Instr.storeAt, Instr.sureAddr, Sem.run_bind, Sem.run_pure, Result.andThen_ok, hs]
  exact h _ ⟨setRow_heap w g (cl L) (cl L') _ _ hA.1, hL⟩ ⟨rfl, rfl, rfl, by simp, fun k _ hk => setRow_other w g k (cl L') (by simpa using hk)⟩
/-- the argument: an array of 32 bytes -/
theorem typesLive : Try.prog.cellTypes Try.prog.depth 53 = some (List.replicate 32 5) := by kernel_rfl
theorem cellsLive : Try.prog.cellsOf 53 = 32 := by kernel_rfl
set_option maxRecDepth 100000 in
theorem open_live {w : World} {r : Reach} {b0 : Nat} {v : Value} (h : Value.okWide Try.prog w r b0 53 v) : ∃ L : List UInt8, v = .agg (cl L) ∧ L.length = 32 := by
  simp only [Value.okWide, Try.underlying53] at h
  obtain ⟨cs, rfl, hs, ts, ht, _, hc⟩ := h
  rw [cellsLive] at hs
  rw [typesLive] at ht
  obtain rfl := Option.some.inj ht
  have hcell : ∀ (i : Nat) (v : Value), cs[i]? = some v → ∃ b : UInt8, v = .int .u8 ((b.toNat : Nat) : Int) := by
    intro i v hv
    obtain ⟨u, hu, hk⟩ := hc i v hv
    have hu' : u = 5 := by
      have := List.mem_of_getElem? hu
      exact List.eq_of_mem_replicate this
    subst hu'
    simp only [Cell.okWide, Cell.ok, Try.underlying5] at hk
    cases v with
    | int k n =>
      obtain ⟨rfl, hn⟩ := hk
      simp only [IntKind.has, IntKind.min, IntKind.max, IntKind.signed, IntKind.bits] at hn
      refine ⟨UInt8.ofNat n.toNat, ?_⟩
      congr 1
      simp only [UInt8.toNat_ofNat']
      simp at hn
      omega
    | _ => exact hk.elim
  refine ⟨cs.toList.map fun v => UInt8.ofNat (intOf v).toNat, ?_, by simpa using hs⟩
  congr 1
  apply Array.toList_inj.1
  rw [cl_list]
  unfold bv
  rw [List.map_map]
  refine (List.map_id _).symm.trans (List.map_congr_left fun v hv => ?_)
  obtain ⟨i, hi⟩ := List.getElem?_of_mem hv
  rw [Array.getElem?_toList] at hi
  obtain ⟨b, rfl⟩ := hcell i v hi
  simp [intOf]
end Go.Proofs.Ytppodbijdhcclaa

