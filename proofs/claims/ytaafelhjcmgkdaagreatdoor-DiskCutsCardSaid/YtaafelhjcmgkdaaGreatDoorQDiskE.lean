/- Several texts of the proof, joined: what each has is said at its head. -/
import Derived.Test.YtaafelhjcmgkdaaGreatDoorQDiskD
import Derived.Test.YtaafelhjcmgkdaaGreatDoorRows
import Derived.Test.YtaafelhjcmgkdaaGreatDoorQCore
import Derived.Deep.Slices
import Derived.Deep.Fields
import Derived.ChangeSame
import Derived.Test.YtaafelhjcmgkdaaGreatDoorQNandF
/- All blocks of a disk in a script of a law, while the power lasts. Condition: the disk is in order; few calls so far. -/
namespace Go.Proofs.YtaafelhjcmgkdaaGreatDoor
open Go.RowKit
/-- what each block holds -/
def HasAll (X : DS) (N : Nat) (F : Nat → List (List UInt8)) : Prop := ∀ y, y < N - 6 → (F y).length ≤ 8 ∧ (∀ q ∈ F y, Stable q) ∧ Has (X.blk y) (F y)
def upd1 (F : Nat → List (List UInt8)) (b : Nat) (L : List (List UInt8)) : Nat → List (List UInt8) := fun y => if y = b then L else F y
def there (N : Nat) (b k : Int) : Bool := decide (0 ≤ b ∧ b < ((N - 6 : Nat) : Int) ∧ 0 ≤ k ∧ k < 8)
/-- what a Program answers, and leaves -/
def progE (N : Nat) (F : Nat → List (List UInt8)) (b k : Int) : Int := if there N b k then (if k = ((F b.toNat).length : Int) then 0 else 32) else 1
def progF (N : Nat) (F : Nat → List (List UInt8)) (b k : Int) (p : List UInt8) : Nat → List (List UInt8) := if there N b k then (if k = ((F b.toNat).length : Int) then upd1 F b.toNat (F b.toNat ++ [p]) else F) else F
def eraE (N : Nat) (b : Int) : Int := if there N b 0 then 0 else 1
def eraF (N : Nat) (F : Nat → List (List UInt8)) (b : Int) : Nat → List (List UInt8) := if there N b 0 then upd1 F b.toNat [] else F
section
variable {w w' : World} {d t : Nat} {a : At} {X : DS} {N f e K : Nat} {F : Nat → List (List UInt8)}
theorem Disk1.stepP (h : Disk1 w d t a X N f e K) (hF : HasAll X N F) (b k : Int) {p : List UInt8} (hp : Stable p) (hK : K ≤ 4000) :
    Calls Tryz.prog 22 #[.pointer (some ⟨d, 0, none⟩), .int .i64 b, .int .i64 k, .agg (cl p)] w fun er w' => er = .returned (.int .i64 (progE N F b k)) ∧ ∃ X' f' e', Disk1 w' d t a X' N f' e' (K + 5) ∧ X'.l.losses + f' + e' ≤ X.l.losses + f + e ∧ HasAll X' N (progF N F b k p) ∧ Chg w w' (a.disk t d) := by
  have hmore : ∀ {w'}, Disk1 w' d t a X N f e K → Disk1 w' d t a X N f e (K + 5) := fun q => ⟨q.dk, q.ok.more (by omega), q.on, q.last, q.u, few_le (by omega) q.few⟩
  unfold progE progF
  by_cases c : 0 ≤ b ∧ b < ((N - 6 : Nat) : Int) ∧ 0 ≤ k ∧ k < 8
  · have ct : there N b k = true := decide_eq_true c
    rw [ct]
    simp only [if_true]
    obtain ⟨bn, rfl⟩ : ∃ n : Nat, b = n := ⟨b.toNat, by omega⟩
    obtain ⟨kn, rfl⟩ : ∃ n : Nat, k = n := ⟨k.toNat, by omega⟩
    rw [Int.toNat_natCast]
    have hb : bn < N - 6 := by omega
    obtain ⟨h1, h2, h3⟩ := hF bn hb
    by_cases ck : kn = (F bn).length
    · subst ck
      rw [if_pos rfl, if_pos rfl]
      refine (h.program hb h3 (by omega) h2 hp hK).mono ?_
      rintro er w' ⟨rfl, X', f', e', q1, _, _, q4, q5, q6, _, _, q9⟩
      refine ⟨rfl, X', f', e', q1, q4, fun y hy => ?_, q9⟩
      unfold upd1
      by_cases cy : y = bn
      · subst cy
        rw [if_pos rfl]
        refine ⟨by rw [List.length_append, List.length_singleton]; omega, fun q hq => ?_, q5⟩
        rcases List.mem_append.1 hq with z | z
        · exact h2 q z
        · rw [List.mem_singleton.1 z]; exact hp
      · rw [if_neg cy, q6 y hy cy]
        exact hF y hy
    · rw [if_neg (by omega), if_neg (by omega)]
      refine (h.refused hp.1 (h.order hb (by omega) (by rw [h3.nx]; exact fun q => ck q.symm) p) hK).mono ?_
      rintro er w' ⟨rfl, q1, q2⟩
      exact ⟨rfl, X, f, e, hmore q1, Nat.le_refl _, hF, q2⟩
  · have ct : there N b k = false := decide_eq_false c
    rw [ct]
    simp only [Bool.false_eq_true, if_false]
    refine (h.refused hp.1 (h.wrong c p) hK).mono ?_
    rintro er w' ⟨rfl, q1, q2⟩
    exact ⟨rfl, X, f, e, hmore q1, Nat.le_refl _, hF, q2⟩
theorem Disk1.stepE (h : Disk1 w d t a X N f e K) (hF : HasAll X N F) (b : Int) (hK : K ≤ 4000) :
    Calls Tryz.prog 10 #[.pointer (some ⟨d, 0, none⟩), .int .i64 b] w fun er w' => er = .returned (.int .i64 (eraE N b)) ∧ ∃ X' f' e', Disk1 w' d t a X' N f' e' (K + 5) ∧ X'.l.losses + f' + e' ≤ X.l.losses + f + e ∧ HasAll X' N (eraF N F b) ∧ Chg w w' (a.disk t d) := by
  unfold eraE eraF
  by_cases c : 0 ≤ b ∧ b < ((N - 6 : Nat) : Int)
  · have ct : there N b 0 = true := decide_eq_true ⟨c.1, c.2, by omega, by omega⟩
    rw [ct]
    simp only [if_true]
    obtain ⟨bn, rfl⟩ : ∃ n : Nat, b = n := ⟨b.toNat, by omega⟩
    rw [Int.toNat_natCast]
    have hb : bn < N - 6 := by omega
    refine (h.erase hb hK).mono ?_
    rintro er w' ⟨rfl, X', f', e', q1, _, _, q4, q5, q6, q9⟩
    refine ⟨rfl, X', f', e', q1, q4, fun y hy => ?_, q9⟩
    unfold upd1
    by_cases cy : y = bn
    · subst cy
      rw [if_pos rfl]
      exact ⟨by simp, fun q hq => (by cases hq), q5⟩
    · rw [if_neg cy, q6 y hy cy]
      exact hF y hy
  · have ct : there N b 0 = false := decide_eq_false (fun q => c ⟨q.1, q.2.1⟩)
    rw [ct]
    simp only [Bool.false_eq_true, if_false]
    refine (h.noErase c hK).mono ?_
    rintro er w' ⟨rfl, q1, q2⟩
    exact ⟨rfl, X, f, e, ⟨q1.dk, q1.ok.more (by omega), q1.on, q1.last, q1.u, few_le (by omega) q1.few⟩, Nat.le_refl _, hF, q2⟩
theorem progF_other {b k : Int} {p : List UInt8} {y : Nat} (h : b ≠ (y : Int)) : progF N F b k p y = F y := by
  unfold progF
  split
  · rename_i c
    have c' := of_decide_eq_true c
    split
    · unfold upd1
      rw [if_neg (by omega)]
    · rfl
  · rfl
theorem eraF_other {b : Int} {y : Nat} (h : b ≠ (y : Int)) : eraF N F b y = F y := by
  unfold eraF
  split
  · rename_i c
    have c' := of_decide_eq_true c
    unfold upd1
    rw [if_neg (by omega)]
  · rfl
theorem hasAll_told {pr : Bool} {zs : List Int} (h : HasAll X N F) : HasAll ⟨X.S.told pr zs, X.s, X.l, X.u⟩ N F := fun y hy => by
  have e : (DS.mk (X.S.told pr zs) X.s X.l X.u).blk y = X.blk y := by unfold DS.blk Ch.bk; rw [told_bs]
  rw [e]
  exact h y hy
end
/-- the numbers of the acts that are to fail -/
theorem low3 (z : Int) {k m : Nat} (hm : m = 2 ^ k) (hk : k ≤ 16) : ∃ x : Nat, bits .and .i64 z ((m - 1 : Nat) : Int) = (x : Int) ∧ x < m := by
  have h2 : 0 < 2 ^ k := Nat.two_pow_pos k
  have hle : 2 ^ k ≤ 2 ^ 16 := Nat.pow_le_pow_right (by omega) hk
  have e : (BitVec.ofInt 64 z &&& BitVec.ofInt 64 ((m - 1 : Nat) : Int)).toNat = (z % 18446744073709551616).toNat % 2 ^ k := by
    rw [BitVec.toNat_and, BitVec.ofInt_natCast, BitVec.toNat_ofNat, Nat.mod_eq_of_lt (by omega), hm, Nat.and_two_pow_sub_one_eq_mod, BitVec.toNat_ofInt]
    rfl
  have hlt := Nat.mod_lt ((z % 18446744073709551616).toNat) h2
  refine ⟨(z % 18446744073709551616).toNat % 2 ^ k, ?_, by omega⟩
  unfold bits
  show IntKind.i64.wrap ((BitVec.ofInt 64 z &&& BitVec.ofInt 64 ((m - 1 : Nat) : Int)).toNat : Int) = _
  rw [e, IntKind.wrap_i64]
  omega
end Go.Proofs.YtaafelhjcmgkdaaGreatDoor

/- The argument that is a script of disk's laws: what it reads as, how an element is loaded and kept. No condition. -/
namespace Go.Proofs.YtaafelhjcmgkdaaGreatDoor
open Go.RowKit Go.ChangeShapes Go.WideShapes Go.ChangeAt
/-- a call of a script -/
structure Op7 where
  k : Int
  b : Int
  p : Int
  n : Int
  keep : Int
  byte : Int
  next : Bool
instance : Inhabited Op7 := ⟨⟨0, 0, 0, 0, 0, 0, false⟩⟩
def Op7.row (o : Op7) : List Value := [.int .i64 o.k, .int .i64 o.b, .int .i64 o.p, .int .i64 o.n, .int .i64 o.keep, .int .u8 o.byte, .bool o.next]
structure Op7.ok (o : Op7) : Prop where
  k : (Lit.int .i64 o.k).wf = true
  b : (Lit.int .i64 o.b).wf = true
  p : (Lit.int .i64 o.p).wf = true
  n : (Lit.int .i64 o.n).wf = true
  keep : (Lit.int .i64 o.keep).wf = true
  byte : (Lit.int .u8 o.byte).wf = true
/-- v is a slice of the calls os -/
def Script7 (w : World) (B : Nat) (v : Value) (os : List Op7) : Prop :=
  ∃ A c, v = .slice A os.length c ∧ os.length ≤ c ∧ c ≤ maxLen ∧ (∀ i o, os[i]? = some o → ∃ a, A = some a ∧ a.block < B ∧ ∀ j u, o.row[j]? = some u → w.cell? (a.add (i * 7 + j)) = some u) ∧ ∀ o ∈ os, o.ok
section
variable {H : Type} {enc : TypeId × Value → H} {w : World} {r : Reach} {base b0 : Nat} {spare : Nat → Bool} {held : Bool} {v : Value} {d : DataW H} {ps : List MemPlace}
theorem op7_cells : Tryz.prog.cellsOf 35 = 7 := by kernel_rfl
theorem open_op7_slice {t e : TypeId} {fs : Array Field} {fuel : Nat} {P : Program} {cs : List Value} {x : DataW H × List MemPlace} (ht : P.underlying t = some (.slice e)) (he : P.underlying e = some (.struct fs))
    (hone : Go.Deep.oneCellFields P fs = true) (hC : P.cellsOf e = fs.size) (h : DataW.trod enc P w base spare held fuel t cs = some x) :
    cs = [.slice none 0 0] ∨
    ∃ (a : Addr) (len cap m : Nat), cs = [.slice (some a) len cap] ∧ len ≤ cap ∧ cap ≤ maxLen ∧ len ≤ m ∧
      ∀ i, i < m → ∃ n, ∀ (j : Nat) (f : Field), fs[j]? = some f → ∃ (v : Value) (y : DataW H × List MemPlace), w.cell? (a.add (i * fs.size + j)) = some v ∧ DataW.trod enc P w base spare held n f.type [v] = some y := by
  rcases Go.Deep.open_slice ht h with h0 | ⟨a, len, cap, m, n, D, Pl, hcs, hb, hl, hm, hmm, hx, hi⟩
  · exact .inl h0.1
  · refine .inr ⟨a, len, cap, m, hcs, hl, hm, by rw [hmm]; split <;> omega, fun i him => ?_⟩
    obtain ⟨cs', hc, ht'⟩ := hi i him
    rw [hC] at hc
    obtain ⟨ys, n', hn', hy, hlen, hyl, hf⟩ := DataW.trod_struct he ht'
    obtain ⟨_, hcl, hat⟩ := World.cells?_some hc
    refine ⟨n', fun j f hj => ?_⟩
    obtain ⟨ho, hk⟩ := Go.Deep.hone_of hone j f hj
    have hjl : j < fs.size := (Array.getElem?_eq_some_iff.1 hj).1
    have hcell := hat j hjl
    have hv : cs'[j]? = some (cs'[j]'(by omega)) := List.getElem?_eq_getElem (by omega)
    have h1 := hf j f hj
    rw [ho, hk] at h1
    have hone' : (cs'.drop j).take 1 = [cs'[j]'(by omega)] := by
      rw [List.drop_eq_getElem_cons (by omega)]
      rfl
    rw [hone'] at h1
    have hys : ys[j]? = some (ys[j]'(by omega)) := List.getElem?_eq_getElem (by omega)
    refine ⟨_, _, ?_, h1.trans hys⟩
    rw [← Go.Deep.add_add, hcell, hv]
set_option maxRecDepth 100000 in
theorem open_script7 (hval : Value.okWide Tryz.prog w r b0 22 v) (h : DataW.Trod enc Tryz.prog w base spare held 22 v d ps) : ∃ os, Script7 w w.heap.size v os := by
  obtain ⟨a, len, cap, rfl⟩ := okWide_slice Tryz.underlying22 hval
  obtain ⟨fuel, hf⟩ := h
  have hf' : DataW.trod enc Tryz.prog w base spare held fuel 22 [.slice a len cap] = some (d, ps) := hf
  rcases open_op7_slice Tryz.underlying22 Tryz.underlying35 (by kernel_rfl) (by kernel_rfl) hf' with hcs | ⟨a', len', cap', m, hcs, hl, hm, hlm, hel⟩
  · simp only [List.cons.injEq, and_true] at hcs
    rw [hcs]
    exact ⟨[], none, 0, rfl, by simp, by simp [maxLen], fun i o h => by simp at h, fun o h => by simp at h⟩
  · simp only [List.cons.injEq, and_true, Value.slice.injEq] at hcs
    obtain ⟨rfl, rfl, rfl⟩ := hcs
    have each : ∀ i, i < len → ∃ o : Op7, o.ok ∧ a'.block < w.heap.size ∧ ∀ j u, o.row[j]? = some u → w.cell? (a'.add (i * 7 + j)) = some u := by
      intro i hi
      obtain ⟨n, hn⟩ := hel i (by omega)
      obtain ⟨v0, y0, c0, t0⟩ := hn 0 _ rfl
      obtain ⟨v1, y1, c1, t1⟩ := hn 1 _ rfl
      obtain ⟨v2, y2, c2, t2⟩ := hn 2 _ rfl
      obtain ⟨v3, y3, c3, t3⟩ := hn 3 _ rfl
      obtain ⟨v4, y4, c4, t4⟩ := hn 4 _ rfl
      obtain ⟨v5, y5, c5, t5⟩ := hn 5 _ rfl
      obtain ⟨v6, y6, c6, t6⟩ := hn 6 _ rfl
      obtain ⟨z0, e0, _, w0⟩ := DataW.trod_int Tryz.underlying3 t0
      obtain ⟨z1, e1, _, w1⟩ := DataW.trod_int Tryz.underlying3 t1
      obtain ⟨z2, e2, _, w2⟩ := DataW.trod_int Tryz.underlying3 t2
      obtain ⟨z3, e3, _, w3⟩ := DataW.trod_int Tryz.underlying3 t3
      obtain ⟨z4, e4, _, w4⟩ := DataW.trod_int Tryz.underlying3 t4
      obtain ⟨z5, e5, _, w5⟩ := DataW.trod_int Tryz.underlying5 t5
      obtain ⟨z6, e6, _⟩ := DataW.trod_bool Tryz.underlying4 t6
      obtain rfl : v0 = _ := List.head_eq_of_cons_eq e0
      obtain rfl : v1 = _ := List.head_eq_of_cons_eq e1
      obtain rfl : v2 = _ := List.head_eq_of_cons_eq e2
      obtain rfl : v3 = _ := List.head_eq_of_cons_eq e3
      obtain rfl : v4 = _ := List.head_eq_of_cons_eq e4
      obtain rfl : v5 = _ := List.head_eq_of_cons_eq e5
      obtain rfl : v6 = _ := List.head_eq_of_cons_eq e6
      refine ⟨⟨z0, z1, z2, z3, z4, z5, z6⟩, ⟨w0, w1, w2, w3, w4, w5⟩, ?_, ?_⟩
      · have := World.block_lt_of_cell? w _ c0
        rwa [add_block] at this
      · intro j u hu
        match j, hu with
        | 0, hu => cases hu; exact c0
        | 1, hu => cases hu; exact c1
        | 2, hu => cases hu; exact c2
        | 3, hu => cases hu; exact c3
        | 4, hu => cases hu; exact c4
        | 5, hu => cases hu; exact c5
        | 6, hu => cases hu; exact c6
        | j + 7, hu => exact absurd hu (by simp [Op7.row])
    obtain ⟨f, hfb⟩ := Deep.choose_lt (α := Op7) (n := len) (p := fun i o => o.ok ∧ a'.block < w.heap.size ∧ ∀ j u, o.row[j]? = some u → w.cell? (a'.add (i * 7 + j)) = some u) each
    refine ⟨(List.range len).map f, some a', cap, by simp, by simpa using hl, hm, fun i o ho => ?_, fun o ho => ?_⟩
    · have hi : i < len := by have := (List.getElem?_eq_some_iff.1 ho).1; simpa using this
      have : f i = o := by simpa [hi] using ho
      rw [← this]
      exact ⟨a', rfl, (hfb i hi).2.1, (hfb i hi).2.2⟩
    · obtain ⟨i, hi, rfl⟩ := List.mem_map.1 ho
      exact (hfb i (by simpa using hi)).1
/-- an element is loaded whole -/
theorem op7_size : (Tryz.prog.info? 35).map (·.size) = some 7 := by kernel_rfl
theorem op7_load (q : Addr) (o : Op7) (w : World) (h : ∀ j u, o.row[j]? = some u → w.cell? (q.add j) = some u) : (loadVar 35 q).run Tryz.prog w = .ok (.agg o.row.toArray) w := by
  have h1 := run_loadCells_list (P := Tryz.prog) w q o.row h
  have h2 : (isAgg 35).run Tryz.prog w = .ok true w := by kernel_rfl
  have h3 : (sizeOf 35).run Tryz.prog w = .ok 7 w := by kernel_rfl
  unfold loadVar
  simp only [Sem.run_bind, h2, Result.andThen_ok, if_true, h3, Sem.run_pure]
  have hl : o.row.length = 7 := rfl
  rw [hl] at h1
  rw [h1]
  rfl
end
def zOp7 : List Value := [.int .i64 0, .int .i64 0, .int .i64 0, .int .i64 0, .int .i64 0, .int .u8 0, .bool false]
theorem zeroOp7 (w : World) : (zeroValue 35).run Tryz.prog w = .ok (.agg zOp7.toArray) w := by
  kernel_rfl
theorem aggOp7 (w : World) : (isAgg 35).run Tryz.prog w = .ok true w := by kernel_rfl
theorem sizeOp7 (w : World) : (sizeOf 35).run Tryz.prog w = .ok 7 w := by kernel_rfl
theorem Op7.one (o : Op7) : ∀ v ∈ o.row, v.oneCell' = true := by
  intro v hv
  simp only [Op7.row, List.mem_cons, List.not_mem_nil, or_false] at hv
  rcases hv with rfl | rfl | rfl | rfl | rfl | rfl | rfl <;> rfl
/-- an element is loaded whole, as the walk meets it -/
theorem wpl_o7load {ops : Array Oper} {rest : List Oper} {o : Oper} {a : Act} {w : World} {q : Addr} {v : Value} {Q : Exit → Act → World → Prop} (x : Operand) (ho : o.op = .load 35 x) (hgd : Region.wanted o (yielded ops a.tmps) = true)
    (hx : a.eval x = .pointer (some q)) (hl : (loadVar 35 q).run Tryz.prog w = .ok v w) (h : wpList Tryz.prog ops Q rest (a.put o.dst v) w) : wpList Tryz.prog ops Q (o :: rest) a w := by
  refine BigFrame.wpList_want hgd fun K hK => ?_
  unfold Oper.wp execOp
  simp only [ho, hx, Instr.loadAt, Instr.sureAddr, Sem.run_bind, Sem.run_pure, Result.andThen_ok, hl]
  exact hK _ _ h
/-- a script's element in a later world -/
theorem Script7.at_ {w : World} {B : Nat} {A : Option Addr} {c : Nat} {os : List Op7} (h : Script7 w B (.slice A os.length c) os) {i : Nat} (hi : i < os.length) {w' : World} (hb : Below B w w') :
    ∃ p, A = some p ∧ (os[i]).ok ∧ (loadVar 35 (p.add (i * 7))).run Tryz.prog w' = .ok (.agg (os[i]).row.toArray) w' := by
  obtain ⟨A', c', e, _, _, h1, h2⟩ := h
  obtain ⟨rfl, _, _⟩ := Value.slice.inj e
  obtain ⟨p, rfl, hp, hc⟩ := h1 i _ (List.getElem?_eq_getElem hi)
  refine ⟨p, rfl, h2 _ (List.getElem_mem hi), op7_load _ _ _ fun j u hu => ?_⟩
  rw [Go.Deep.add_add, hb.cell (by rw [add_block]; exact hp)]
  exact hc j u hu
end Go.Proofs.YtaafelhjcmgkdaaGreatDoor

/- A bit of a disk's chip is turned. Condition: the disk is in order. -/
namespace Go.Proofs.YtaafelhjcmgkdaaGreatDoor
open Go.RowKit
section
variable {w : World} {d t : Nat} {a : At} {X : DS} {N f e K : Nat}
end
end Go.Proofs.YtaafelhjcmgkdaaGreatDoor

/- The walk of DiskOrder: it answers true, and changes nothing that was there. Condition: the table of the check sum holds its sixteen numbers. -/
namespace Go.Proofs.YtaafelhjcmgkdaaGreatDoor
open Go.RowKit
theorem wrap_kb (z : Int) : ∃ kb : UInt8, IntKind.u8.wrap z = ((kb.toNat : Nat) : Int) := by
  refine ⟨UInt8.ofNat (IntKind.u8.wrap z).toNat, ?_⟩
  rw [UInt8.toNat_ofNat', IntKind.wrap_u8]
  omega
theorem and_65535d (z : Int) : ∃ y : Nat, bits .and .i64 z 65535 = (y : Int) := by
  have e : (BitVec.ofInt 64 z &&& BitVec.ofInt 64 65535).toNat = (z % 18446744073709551616).toNat % 2 ^ 16 := by
    rw [BitVec.toNat_and, show (BitVec.ofInt 64 65535).toNat = 2 ^ 16 - 1 from rfl, Nat.and_two_pow_sub_one_eq_mod, BitVec.toNat_ofInt]
    rfl
  refine ⟨(z % 18446744073709551616).toNat % 2 ^ 16, ?_⟩
  unfold bits
  show IntKind.i64.wrap ((BitVec.ofInt 64 z &&& BitVec.ofInt 64 65535).toNat : Int) = _
  rw [e, IntKind.wrap_i64]
  omega
theorem low_mod (z : Int) {m : Nat} (hm : 0 < m) : ∃ x : Nat, (bits .and .i64 z 65535).tmod (m : Int) = (x : Int) ∧ x < m := by
  obtain ⟨y, hy⟩ := and_65535d z
  rw [hy]
  have h1 := Nat.mod_lt y hm
  exact ⟨y % m, by rw [Int.tmod_eq_emod_of_nonneg (by omega)]; omega, h1⟩
/-- the element of a slice of numbers, in a later world -/
theorem nums_at {w w' : World} {B c : Nat} {A : Option Addr} {zs : List Int} (h : Nums w B .i64 (.slice A zs.length c) zs) {q : Nat} (hq : q < zs.length) (hb : Below B w w') : ∃ p, A = some p ∧ ∃ z, w'.cell? (p.add q) = some (.int .i64 z) := by
  obtain ⟨A', cap', ev, _, _, hrow, _⟩ := h
  obtain ⟨rfl, _, rfl⟩ := Value.slice.inj ev
  obtain ⟨p2, rfl, hab, hcell⟩ := hrow.at_ (k := q) (by simpa using hq)
  refine ⟨p2, rfl, zs[q], ?_⟩
  have h1 := (hb.cell (p := p2.add q) (by rw [add_block]; exact hab)).trans hcell
  rw [List.getElem_map] at h1
  exact h1
end Go.Proofs.YtaafelhjcmgkdaaGreatDoor

/- The walk of DiskMends: it answers true, and changes nothing that was there. Condition: the table of the check sum holds its sixteen numbers. -/
namespace Go.Proofs.YtaafelhjcmgkdaaGreatDoor
open Go.RowKit
theorem u8_wf {s : Int} (h : (Lit.int .u8 s).wf = true) : ∃ b : UInt8, s = ((b.toNat : Nat) : Int) := by
  have h2 : 0 ≤ s ∧ s ≤ 255 := by
    have h3 : IntKind.u8.min ≤ s ∧ s ≤ IntKind.u8.max := by simpa [Lit.wf] using h
    exact h3
  refine ⟨UInt8.ofNat s.toNat, ?_⟩
  rw [UInt8.toNat_ofNat']
  omega
theorem told0m : (fun i : Int => decide (i ∈ [(0 : Int)])) 0 = true := by decide
end Go.Proofs.YtaafelhjcmgkdaaGreatDoor

