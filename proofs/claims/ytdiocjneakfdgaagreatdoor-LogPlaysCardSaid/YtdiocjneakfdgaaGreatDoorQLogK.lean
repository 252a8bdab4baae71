/- Several texts of the proof, joined: what each has is said at its head. -/
import Derived.Test.YtdiocjneakfdgaaGreatDoorRows
import Derived.Test.YtdiocjneakfdgaaGreatDoorQCore
import Derived.Test.YtdiocjneakfdgaaGreatDoorQWear
import Derived.Deep.Slices
import Derived.Deep.Fields
import Derived.ChangeSame
import Derived.Test.YtdiocjneakfdgaaGreatDoorQLogJ
import Derived.Laws.StructEq
import Derived.Maps.AppendAt
import Derived.Test.YtdiocjneakfdgaaGreatDoorQLogB
/- The argument that is a script of a log's laws: what it reads as, how an element is loaded; the contract of great. No condition. -/
namespace Go.Proofs.YtdiocjneakfdgaaGreatDoor
open Go.RowKit Go.ChangeShapes Go.WideShapes Go.ChangeAt
/-- a call of a script -/
structure Op8 where
  k : Int
  rc : Int
  n : Int
  kp : Int
  ty : UInt8
  v : Value
  L : List (List UInt8)
instance : Inhabited Op8 := ⟨⟨0, 0, 0, 0, 0, .slice none 0 0, []⟩⟩
def Op8.row (o : Op8) : List Value := [.int .i64 o.k, .int .i64 o.rc, .int .i64 o.n, .int .i64 o.kp, .int .u8 ((o.ty.toNat : Nat) : Int), o.v]
structure Op8.ok (w : World) (B : Nat) (o : Op8) : Prop where
  k : (Lit.int .i64 o.k).wf = true
  rc : (Lit.int .i64 o.rc).wf = true
  n : (Lit.int .i64 o.n).wf = true
  kp : (Lit.int .i64 o.kp).wf = true
  v : Parts w B o.v o.L
/-- v is a slice of the calls os -/
def Script8 (w : World) (B : Nat) (v : Value) (os : List Op8) : Prop :=
  ∃ A c, v = .slice A os.length c ∧ os.length ≤ c ∧ c ≤ maxLen ∧ (∀ i o, os[i]? = some o → ∃ a, A = some a ∧ a.block < B ∧ ∀ j u, o.row[j]? = some u → w.cell? (a.add (i * 6 + j)) = some u) ∧ ∀ o ∈ os, o.ok w B
section
variable {H : Type} {enc : TypeId × Value → H} {w : World} {r : Reach} {base b0 : Nat} {spare : Nat → Bool} {held : Bool} {v : Value} {d : DataW H} {ps : List MemPlace}
theorem open_op8_slice {t e : TypeId} {fs : Array Field} {fuel : Nat} {P : Program} {cs : List Value} {x : DataW H × List MemPlace} (ht : P.underlying t = some (.slice e)) (he : P.underlying e = some (.struct fs))
    (hone : Go.Deep.oneCellFields P fs = true) (hC : P.cellsOf e = fs.size) (h : DataW.trod enc P w base spare held fuel t cs = some x) :
    cs = [.slice none 0 0] ∨
    ∃ (a : Addr) (len cap m : Nat), cs = [.slice (some a) len cap] ∧ len ≤ cap ∧ cap ≤ maxLen ∧ len ≤ m ∧
      ∀ i, i < m → ∃ n, ∀ (j : Nat) (f : Field), fs[j]? = some f → ∃ (v : Value) (y : DataW H × List MemPlace), w.cell? (a.add (i * fs.size + j)) = some v ∧ DataW.trod enc P w base spare held n f.type [v] = some y := by
  rcases Go.Deep.open_slice ht h with h0 | ⟨a, len, cap, m, n, D, Pl, hcs, hb, hl, hm, hmm, hx, hi⟩
  · exact .inl h0.1
  · refine .inr ⟨a, len, cap, m, hcs, hl, hm, by rw [hmm]; split <;> omega, fun i him => ?_⟩
    obtain ⟨cs', hc, ht'⟩ := hi i him
    rw [hC] at hc
    obtain ⟨ys, n', hn', hy, hlen, hyl, hf⟩ := DataW.trod_struct he ht'
    obtain ⟨_, hcl, hat⟩ := World.cells?_some hc
    refine ⟨n', fun j f hj => ?_⟩
    obtain ⟨ho, hk⟩ := Go.Deep.hone_of hone j f hj
    have hjl : j < fs.size := (Array.getElem?_eq_some_iff.1 hj).1
    have hcell := hat j hjl
    have hv : cs'[j]? = some (cs'[j]'(by omega)) := List.getElem?_eq_getElem (by omega)
    have h1 := hf j f hj
    rw [ho, hk] at h1
    have hone' : (cs'.drop j).take 1 = [cs'[j]'(by omega)] := by
      rw [List.drop_eq_getElem_cons (by omega)]
      rfl
    rw [hone'] at h1
    have hys : ys[j]? = some (ys[j]'(by omega)) := List.getElem?_eq_getElem (by omega)
    refine ⟨_, _, ?_, h1.trans hys⟩
    rw [← Go.Deep.add_add, hcell, hv]
theorem byte_of_wf {s : Int} (h : (Lit.int .u8 s).wf = true) : ∃ b : UInt8, s = ((b.toNat : Nat) : Int) := by
  simp only [Lit.wf, Bool.and_eq_true, IntKind.min, IntKind.max, IntKind.signed, IntKind.bits] at h
  simp at h
  refine ⟨UInt8.ofNat s.toNat, ?_⟩
  rw [UInt8.toNat_ofNat']
  omega
theorem parts_cells {P : Program} {t e e2 : TypeId} {v : Value} {fuel : Nat} {x : DataW H × List MemPlace} (ht : P.underlying t = some (.slice e)) (he : P.underlying e = some (.slice e2)) (he2 : P.underlying e2 = some (.int .u8)) (hc : P.cellsOf e = 1) (hc2 : P.cellsOf e2 = 1)
    (h : DataW.trod enc P w base spare held fuel t [v] = some x) : ∃ L, Parts w w.heap.size v L := by
  rcases Deep.open_slice1 ht hc h with ⟨hcs, _⟩ | ⟨a', len', cap', m, n, V, D, Pl, hcs, _, hl, hm, hmm, _, hel⟩
  · simp only [List.cons.injEq, and_true] at hcs
    rw [hcs]
    exact ⟨[], Parts.nil 0⟩
  · simp only [List.cons.injEq, and_true] at hcs
    subst hcs
    have hle : len' ≤ m := by rw [hmm]; split <;> omega
    obtain ⟨f, hfb⟩ := Deep.choose_lt (α := List UInt8) (n := len') (p := fun i l => Bytes w w.heap.size (V i) l) fun i hi => bytes_nums (nums_cells he he2 hc2 (hel i (by omega)).2)
    refine ⟨(List.range len').map f, some a', cap', (List.range len').map V, by simp, ?_, ⟨by simp, ?_⟩, by simp; omega⟩
    · intro j u hu
      have hj : j < len' := by have := get_lt hu; simpa using this
      have hc' := (hel j (by omega)).1
      refine ⟨a', rfl, ?_, ?_⟩
      · have := World.block_lt_of_cell? w _ hc'
        rwa [add_block] at this
      · rw [hc', ← hu]
        simp [hj]
    · intro i u hu
      have hj : i < len' := by have := get_lt hu; simpa using this
      refine ⟨f i, by simp [hj], ?_⟩
      have : V i = u := by simpa [hj] using hu
      rw [← this]
      exact hfb i hj
set_option maxRecDepth 100000 in
theorem open_script8 (hval : Value.okWide Tryz.prog w r b0 22 v) (h : DataW.Trod enc Tryz.prog w base spare held 22 v d ps) : ∃ os, Script8 w w.heap.size v os := by
  obtain ⟨a, len, cap, rfl⟩ := okWide_slice Tryz.underlying22 hval
  obtain ⟨fuel, hf⟩ := h
  have hf' : DataW.trod enc Tryz.prog w base spare held fuel 22 [.slice a len cap] = some (d, ps) := hf
  rcases open_op8_slice Tryz.underlying22 Tryz.underlying41 (by kernel_rfl) (by kernel_rfl) hf' with hcs | ⟨a', len', cap', m, hcs, hl, hm, hlm, hel⟩
  · simp only [List.cons.injEq, and_true] at hcs
    rw [hcs]
    exact ⟨[], none, 0, rfl, by simp, by simp [maxLen], fun i o h => by simp at h, fun o h => by simp at h⟩
  · simp only [List.cons.injEq, and_true, Value.slice.injEq] at hcs
    obtain ⟨rfl, rfl, rfl⟩ := hcs
    have each : ∀ i, i < len → ∃ o : Op8, o.ok w w.heap.size ∧ a'.block < w.heap.size ∧ ∀ j u, o.row[j]? = some u → w.cell? (a'.add (i * 6 + j)) = some u := by
      intro i hi
      obtain ⟨n, hn⟩ := hel i (by omega)
      obtain ⟨v0, y0, c0, t0⟩ := hn 0 _ rfl
      obtain ⟨v1, y1, c1, t1⟩ := hn 1 _ rfl
      obtain ⟨v2, y2, c2, t2⟩ := hn 2 _ rfl
      obtain ⟨v3, y3, c3, t3⟩ := hn 3 _ rfl
      obtain ⟨v4, y4, c4, t4⟩ := hn 4 _ rfl
      obtain ⟨v5, y5, c5, t5⟩ := hn 5 _ rfl
      obtain ⟨z0, e0, _, w0⟩ := DataW.trod_int Tryz.underlying3 t0
      obtain ⟨z1, e1, _, w1⟩ := DataW.trod_int Tryz.underlying3 t1
      obtain ⟨z2, e2, _, w2⟩ := DataW.trod_int Tryz.underlying3 t2
      obtain ⟨z3, e3, _, w3⟩ := DataW.trod_int Tryz.underlying3 t3
      obtain ⟨z4, e4, _, w4⟩ := DataW.trod_int Tryz.underlying5 t4
      obtain ⟨L, hL⟩ := parts_cells Tryz.underlying39 Tryz.underlying62 Tryz.underlying5 (by kernel_rfl) (by kernel_rfl) t5
      obtain ⟨b4, rfl⟩ := byte_of_wf w4
      obtain rfl : v0 = _ := List.head_eq_of_cons_eq e0
      obtain rfl : v1 = _ := List.head_eq_of_cons_eq e1
      obtain rfl : v2 = _ := List.head_eq_of_cons_eq e2
      obtain rfl : v3 = _ := List.head_eq_of_cons_eq e3
      obtain rfl : v4 = _ := List.head_eq_of_cons_eq e4
      refine ⟨⟨z0, z1, z2, z3, b4, v5, L⟩, ⟨w0, w1, w2, w3, hL⟩, ?_, ?_⟩
      · have := World.block_lt_of_cell? w _ c0
        rwa [add_block] at this
      · intro j u hu
        match j, hu with
        | 0, hu => cases hu; exact c0
        | 1, hu => cases hu; exact c1
        | 2, hu => cases hu; exact c2
        | 3, hu => cases hu; exact c3
        | 4, hu => cases hu; exact c4
        | 5, hu => cases hu; exact c5
        | j + 6, hu => exact absurd hu (by simp [Op8.row])
    obtain ⟨f, hfb⟩ := Deep.choose_lt (α := Op8) (n := len) (p := fun i o => o.ok w w.heap.size ∧ a'.block < w.heap.size ∧ ∀ j u, o.row[j]? = some u → w.cell? (a'.add (i * 6 + j)) = some u) each
    refine ⟨(List.range len).map f, some a', cap, by simp, by simpa using hl, hm, fun i o ho => ?_, fun o ho => ?_⟩
    · have hi : i < len := by have := (List.getElem?_eq_some_iff.1 ho).1; simpa using this
      have : f i = o := by simpa [hi] using ho
      rw [← this]
      exact ⟨a', rfl, (hfb i hi).2.1, (hfb i hi).2.2⟩
    · obtain ⟨i, hi, rfl⟩ := List.mem_map.1 ho
      exact (hfb i (by simpa using hi)).1
end
def zOp8 : List Value := [.int .i64 0, .int .i64 0, .int .i64 0, .int .i64 0, .int .u8 0, .slice none 0 0]
theorem zeroOp8 (w : World) : (zeroValue 41).run Tryz.prog w = .ok (.agg zOp8.toArray) w := by
  kernel_rfl
theorem aggOp8 (w : World) : (isAgg 41).run Tryz.prog w = .ok true w := by kernel_rfl
theorem sizeOp8 (w : World) : (sizeOf 41).run Tryz.prog w = .ok 6 w := by kernel_rfl
/-- a script's element in a later world -/
theorem Script8.at_ {w : World} {B : Nat} {A : Option Addr} {c : Nat} {os : List Op8} (h : Script8 w B (.slice A os.length c) os) {i : Nat} {o : Op8} (hi : os[i]? = some o) :
    ∃ p, A = some p ∧ o.ok w B ∧ ∀ w', Below B w w' → ∀ j u, o.row[j]? = some u → w'.cell? ((p.add (i * 6)).add j) = some u := by
  obtain ⟨A', c', e, _, _, h1, h2⟩ := h
  obtain ⟨rfl, _, _⟩ := Value.slice.inj e
  obtain ⟨p, rfl, hp, hc⟩ := h1 i _ hi
  refine ⟨p, rfl, h2 _ (List.mem_of_getElem? hi), fun w' hb j u hu => ?_⟩
  rw [Go.Deep.add_add, hb.cell (by rw [add_block]; exact hp)]
  exact hc j u hu
/-- an element is loaded whole, as the walk meets it -/
theorem wpl_cells' {ops : Array Oper} {rest : List Oper} {o : Oper} {a : Act} {w : World} {q : Addr} {v : Value} {ty : TypeId} {Q : Exit → Act → World → Prop} (x : Operand) (ho : o.op = .load ty x) (hgd : Region.wanted o (yielded ops a.tmps) = true)
    (hx : a.eval x = .pointer (some q)) (hl : (loadVar ty q).run Tryz.prog w = .ok v w) (h : wpList Tryz.prog ops Q rest (a.put o.dst v) w) : wpList Tryz.prog ops Q (o :: rest) a w := by
  refine BigFrame.wpList_want hgd fun K hK => ?_
  unfold Oper.wp execOp
  simp only [ho, hx, Instr.loadAt, Instr.sureAddr, Sem.run_bind, Sem.run_pure, Result.andThen_ok, hl]
  exact hK _ _ h
/-- what great tells -/
def Great8 (w0 : World) (os : List Op8) (e : Ending) (w' : World) : Prop := ∃ g : Bool, e = .returned (.bool g) ∧ (g = false → os.length ≤ 90 ∧ ∀ o ∈ os, o.L.length ≤ 5 ∧ ∀ p ∈ o.L, p.length ≤ 260) ∧ Below w0.heap.size w0 w'
theorem Great8.yes {w0 w' : World} {os : List Op8} (h : Below w0.heap.size w0 w') : Great8 w0 os (.returned (.bool true)) w' := ⟨true, rfl, (fun q => by cases q), h⟩
theorem Great8.no {w0 w' : World} {os : List Op8} (h : Below w0.heap.size w0 w') (h1 : os.length ≤ 90) (h2 : ∀ o ∈ os, o.L.length ≤ 5 ∧ ∀ p ∈ o.L, p.length ≤ 260) : Great8 w0 os (.returned (.bool false)) w' := ⟨false, rfl, (fun _ => ⟨h1, h2⟩), h⟩
set_option maxRecDepth 100000 in
set_option maxHeartbeats 8000000 in
theorem great8_any (A : Option Addr) (c : Nat) (os : List Op8) (w w0 : World) (h : Script8 w0 w0.heap.size (.slice A os.length c) os) (hw : Below w0.heap.size w0 w) :
    Calls Tryz.prog 5 #[.slice A os.length c] w fun e w' => Great8 w0 os e w' := by
  have z := zeroOp8
  have HS := Lib.hid h
  have HW := Lib.hid hw
  clear h hw
  by_cases h1 : os.length ≤ 90
  · have d1 : decide ((90 : Int) < (os.length : Int)) = false := by simp; omega
    have H1 := Lib.hid h1
    go_enter Tryz.func5, Tryz.ntmps5
    go_wp2_with fail
    clear d1
    go_loopw [4, 6, 12] (fun _ _ i wr => ∃ j : Nat, j ≤ os.length ∧ i = .int .i64 j ∧ Hid (Below w0.heap.size w0 wr) ∧ Hid (∀ k o, k < j → os[k]? = some o → o.L.length ≤ 5 ∧ ∀ p ∈ o.L, p.length ≤ 260)) (fun _ _ i _ => os.length - (intOf i).toNat)
    case atStart => exact ⟨0, by omega, rfl, HW, Lib.hid (fun k o hk => by omega)⟩
    case round =>
      obtain ⟨j, hj, rfl, HB, HP⟩ := hrel
      clear HW
      by_cases hlt : j < os.length
      · obtain ⟨o, ho⟩ : ∃ o, os[j]? = some o := ⟨_, List.getElem?_eq_getElem hlt⟩
        obtain ⟨p, rfl, hok, hc⟩ := HS.out.at_ ho
        have HC := Lib.hid (hc wr HB.out)
        have HO := Lib.hid ho
        have hpv := hok.v
        obtain ⟨A', c', vs, ev, hrow, heach, hvl⟩ := id hpv
        have HR := Lib.hid hrow
        have HE := Lib.hid heach
        have HLN : Hid (vs.length = o.L.length) := Lib.hid heach.1
        have HD := Lib.hid (show (loadVar 41 (p.add (j * 6))).run Tryz.prog wr = .ok (.agg [.int .i64 o.k, .int .i64 o.rc, .int .i64 o.n, .int .i64 o.kp, .int .u8 ((o.ty.toNat : Nat) : Int), .slice A' vs.length c'].toArray) wr from by
          have := cells_load (row := o.row) aggOp8 sizeOp8 rfl HC.out
          unfold Op8.row at this
          rw [ev] at this
          exact this)
        obtain ⟨ok_, orc, on, okp, oty, ov, oL⟩ := o
        simp only at HD HLN
        obtain ⟨tn, htn⟩ : ∃ tn : Int, ((oty.toNat : Nat) : Int) = tn := ⟨_, rfl⟩
        rw [htn] at HD
        have one8 : ∀ u ∈ [Value.int .i64 ok_, .int .i64 orc, .int .i64 on, .int .i64 okp, .int .u8 tn, .slice A' vs.length c'], u.oneCell' = true := by simp [Value.oneCell']
        clear hok hpv ev hrow heach hvl ho hc htn
        by_cases h5 : vs.length ≤ 5
        · have d2 : decide ((5 : Int) < (vs.length : Int)) = false := by simp; omega
          go_wp2_with (first
            | (with_reducible refine wpl_cells' (.tmp 14) rfl rfl rfl HD.out ?_)
            | ((with_reducible refine wpl_seg_store sizeOp8 (.tmp 4) (.tmp 15) rfl rfl (Blk.new wr 41 zOp8) 0 _ rfl (by simp [zOp8]) one8 rfl rfl [.int .i64 ok_, .int .i64 orc, .int .i64 on, .int .i64 okp, .int .u8 tn, .slice A' vs.length c'] rfl ?_); intro w4 R4 g4 e4; have c5 : w4.cell? ⟨wr.heap.size, 5, none⟩ = some (.slice A' vs.length c') := R4.cell 5; have B4 := Lib.hid (show Below w0.heap.size w0 w4 from (HB.out.alloc HB.out.size _).grown g4 (by simp; have := HB.out.size; omega) (fun k e => by cases e; exact HB.out.size)); clear R4 g4 e4))
          clear d2 HD HC one8
          go_loopw [6, 23] (fun _ i wq => ∃ m : Nat, m ≤ vs.length ∧ i = .int .i64 m ∧ Hid (wq = w4) ∧ Hid (∀ k p, k < m → oL[k]? = some p → p.length ≤ 260)) (fun _ i _ => vs.length - (intOf i).toNat)
          case atStart => exact ⟨0, Nat.zero_le _, rfl, (by first | exact Lib.hid rfl | trivial), Lib.hid (fun k p hk => by omega)⟩
          case round =>
            obtain ⟨m, hm, rfl, HQ, HM⟩ := hrel
            have hQ := HQ.out
            subst hQ
            by_cases hlm : m < vs.length
            · obtain ⟨a, rfl, hab, hcell⟩ := HR.out.at_ hlm
              obtain ⟨l, hl, hBy⟩ := HE.out.at_ hlm
              obtain ⟨Ai, ci, hv, hlc, hcm, _⟩ := hBy
              have hc2 := (B4.out.cell (p := a.add m) (by rw [add_block]; exact hab)).trans hcell
              rw [hv] at hc2
              have HL := Lib.hid hl
              unfold maxLen at hcm
              clear hv hl hcell
              by_cases h2 : l.length ≤ 260
              · have d3 : decide ((260 : Int) < (l.length : Int)) = false := by simp; omega
                go_wp2
                go_roundw
                case rel => exact ⟨m + 1, by omega, by go_num, (by first | exact Lib.hid rfl | trivial), Lib.hid (fun k q hk hq => by
                  rcases Nat.lt_or_ge k m with h | h
                  · exact HM.out k q h hq
                  · obtain rfl : k = m := by omega
                    rw [HL.out] at hq
                    cases hq
                    exact h2)⟩
                case measure => simp [intOf]; omega
              · have d3 : decide ((260 : Int) < (l.length : Int)) = true := by simp; omega
                go_wp2
                go_ret
                exact Great8.yes B4.out
            · obtain rfl : m = vs.length := by omega
              go_wp2
              go_roundw
              case rel => exact ⟨j + 1, by omega, by go_num, B4, Lib.hid (fun k u hk hu => by
                rcases Nat.lt_or_ge k j with h | h
                · exact HP.out k u h hu
                · obtain rfl : k = j := by omega
                  rw [HO.out] at hu
                  cases hu
                  refine ⟨by show oL.length ≤ 5; have := HLN.out; omega, fun q hq => ?_⟩
                  obtain ⟨i, hi⟩ := List.mem_iff_getElem?.1 hq
                  exact HM.out i q (by have h3 := get_lt hi; have h4 : vs.length = oL.length := HLN.out; have h5 : i < oL.length := h3; omega) hi)⟩
              case measure => simp [intOf]; omega
        · have d2 : decide ((5 : Int) < (vs.length : Int)) = true := by simp; omega
          go_wp2_with (first
            | (with_reducible refine wpl_cells' (.tmp 14) rfl rfl rfl HD.out ?_)
            | ((with_reducible refine wpl_seg_store sizeOp8 (.tmp 4) (.tmp 15) rfl rfl (Blk.new wr 41 zOp8) 0 _ rfl (by simp [zOp8]) one8 rfl rfl [.int .i64 ok_, .int .i64 orc, .int .i64 on, .int .i64 okp, .int .u8 tn, .slice A' vs.length c'] rfl ?_); intro w4 R4 g4 e4; have c5 : w4.cell? ⟨wr.heap.size, 5, none⟩ = some (.slice A' vs.length c') := R4.cell 5; have B4 := Lib.hid (show Below w0.heap.size w0 w4 from (HB.out.alloc HB.out.size _).grown g4 (by simp; have := HB.out.size; omega) (fun k e => by cases e; exact HB.out.size)); clear R4 g4 e4))
          go_ret
          exact Great8.yes B4.out
      · obtain rfl : j = os.length := by omega
        go_wp2
        go_ret
        exact Great8.no HB.out H1.out (fun o ho => by
          obtain ⟨i, hi⟩ := List.mem_iff_getElem?.1 ho
          exact HP.out i o (get_lt hi) hi)
  · have d1 : decide ((90 : Int) < (os.length : Int)) = true := by simp; omega
    go_enter Tryz.func5, Tryz.ntmps5
    go_wp2_with fail
    go_ret
    exact Great8.yes HW.out
end Go.Proofs.YtdiocjneakfdgaaGreatDoor

/- Slices of bytes that a call has made and holds: in which blocks they lie. No condition. -/
namespace Go.Proofs.YtdiocjneakfdgaaGreatDoor
open Go.RowKit

theorem sliceTys : OneCell Tryz.prog 39 62 (.slice none 0 0) 24 := OneCell.mk' Tryz.underlying39 (by kernel_rfl) (by decide)

/-- bytes that lie in blocks of which S speaks -/
def BytesS (w : World) (S : Nat → Prop) (v : Value) (l : List UInt8) : Prop :=
  ∃ A c, v = .slice A l.length c ∧ l.length ≤ c ∧ c ≤ maxLen ∧ ∀ (j : Nat) (u : Value), (bv l)[j]? = some u → ∃ a, A = some a ∧ S a.block ∧ w.cell? (a.add j) = some u
def EachS (w : World) (S : Nat → Prop) (xs : List Value) (L : List (List UInt8)) : Prop :=
  xs.length = L.length ∧ ∀ (i : Nat) (v : Value), xs[i]? = some v → ∃ l, L[i]? = some l ∧ BytesS w S v l
theorem BytesS.keep {w w' : World} {S S' : Nat → Prop} {v : Value} {l : List UInt8} (h : BytesS w S v l) (hk : ∀ k, S k → S' k ∧ w'.heap[k]? = w.heap[k]?) : BytesS w' S' v l := by
  obtain ⟨A, c, h1, h2, h3, h4⟩ := h
  refine ⟨A, c, h1, h2, h3, fun j u hu => ?_⟩
  obtain ⟨a, e, hs, hc⟩ := h4 j u hu
  exact ⟨a, e, (hk _ hs).1, (World.cell?_of_block (w := w) (w' := w') (a := a.add j) (by rw [add_block]; exact (hk _ hs).2)).trans hc⟩
theorem EachS.keep {w w' : World} {S S' : Nat → Prop} {xs : List Value} {L : List (List UInt8)} (h : EachS w S xs L) (hk : ∀ k, S k → S' k ∧ w'.heap[k]? = w.heap[k]?) : EachS w' S' xs L :=
  ⟨h.1, fun i v hv => by obtain ⟨l, hl, hb⟩ := h.2 i v hv; exact ⟨l, hl, hb.keep hk⟩⟩
theorem EachS.snoc {w : World} {S : Nat → Prop} {xs : List Value} {L : List (List UInt8)} {v : Value} {l : List UInt8} (h : EachS w S xs L) (hv : BytesS w S v l) : EachS w S (xs ++ [v]) (L ++ [l]) := by
  refine ⟨by simp [h.1], fun i u hu => ?_⟩
  rcases Nat.lt_or_ge i xs.length with hi | hi
  · rw [List.getElem?_append_left hi] at hu
    obtain ⟨m, hm, hb⟩ := h.2 i u hu
    exact ⟨m, by rw [List.getElem?_append_left (by rw [← h.1]; exact hi)]; exact hm, hb⟩
  · rw [List.getElem?_append_right hi] at hu
    have hi0 : i - xs.length = 0 := by
      have := get_lt hu
      simp at this
      omega
    rw [hi0] at hu
    simp only [List.getElem?_cons_zero, Option.some.injEq] at hu
    subst hu
    exact ⟨l, by rw [List.getElem?_append_right (by rw [← h.1]; exact hi), ← h.1, hi0]; rfl, hv⟩
theorem BytesS.bytes {w : World} {S : Nat → Prop} {B : Nat} {v : Value} {l : List UInt8} (h : BytesS w S v l) (hS : ∀ k, S k → k < B) : Bytes w B v l := by
  obtain ⟨A, c, h1, h2, h3, h4⟩ := h
  refine ⟨A, c, h1, h2, h3, fun j u hu => ?_⟩
  obtain ⟨a, e, hs, hc⟩ := h4 j u hu
  exact ⟨a, e, hS _ hs, hc⟩
theorem EachS.each {w : World} {S : Nat → Prop} {B : Nat} {xs : List Value} {L : List (List UInt8)} (h : EachS w S xs L) (hS : ∀ k, S k → k < B) : Each w B xs L :=
  ⟨h.1, fun i v hv => by obtain ⟨l, hl, hb⟩ := h.2 i v hv; exact ⟨l, hl, hb.bytes hS⟩⟩
theorem Own.bytesS {e : TypeId} {w : World} {base : Nat} {v : Value} {l : List UInt8} (h : Own e w base v l) (hl : l.length ≤ maxLen) : BytesS w (fun k => v.ownBlock = some k) v l := by
  obtain ⟨A, c, h1, h2, h3, h4⟩ := h.bytes hl
  refine ⟨A, c, h1, h2, h3, fun j u hu => ?_⟩
  obtain ⟨a, e, _, hc⟩ := h4 j u hu
  refine ⟨a, e, ?_, hc⟩
  subst h1 e
  rfl
end Go.Proofs.YtdiocjneakfdgaaGreatDoor

/- A law's list of records in memory: how it is read and appended to; the document's Right. No condition. -/
namespace Go.Proofs.YtdiocjneakfdgaaGreatDoor
open Go.RowKit
/-- a slice of records, in blocks that aren't below lo -/
def RecB (w : World) (lo : Nat) (A : Option Addr) (L : List RR) : Prop := L ≠ [] → ∃ q E, A = some ⟨q, 0, none⟩ ∧ lo ≤ q ∧ Blk w q 46 (L.flatMap rr8 ++ E)
theorem RecB.nil {w : World} {lo : Nat} {A : Option Addr} : RecB w lo A [] := fun h => absurd rfl h
theorem RecB.chg {w w' : World} {lo : Nat} {A : Option Addr} {L : List RR} {T : Nat → Prop} (h : RecB w lo A L) (hc : Chg w w' T) (hT : ∀ k, T k → k < lo) : RecB w' lo A L := fun hn => by
  obtain ⟨q, E, h1, h2, h3⟩ := h hn
  exact ⟨q, E, h1, h2, h3.chg hc (fun e => by have := hT q e; omega)⟩
theorem RecB.after {w w' : World} {lo : Nat} {A : Option Addr} {L : List RR} (h : RecB w lo A L) (hb : Below w.heap.size w w') : RecB w' lo A L := fun hn => by
  obtain ⟨q, E, h1, h2, h3⟩ := h hn
  exact ⟨q, E, h1, h2, h3.after hb⟩
theorem RecB.lower {w : World} {lo lo' : Nat} {A : Option Addr} {L : List RR} (h : RecB w lo A L) (hl : lo' ≤ lo) : RecB w lo' A L := fun hn => by
  obtain ⟨q, E, h1, h2, h3⟩ := h hn
  exact ⟨q, E, h1, by omega, h3⟩
theorem rrs_length (L : List RR) : (L.flatMap rr8).length = L.length * 4 := by
  induction L with
  | nil => rfl
  | cons x L ih => rw [List.flatMap_cons, List.length_append, rr8_len, ih, List.length_cons]; omega
theorem rrs_one (L : List RR) : ∀ v ∈ L.flatMap rr8, v.oneCell' = true := fun v hv => by
  obtain ⟨r, _, h⟩ := List.mem_flatMap.1 hv
  exact rr8_one r v h
theorem rrs_at : ∀ {L : List RR} {i : Nat} {r : RR}, L[i]? = some r → ∀ E, ((L.flatMap rr8 ++ E).drop (i * 4)).take 4 = rr8 r
  | [], i, r, h => by simp at h
  | x :: L, 0, r, h => fun E => by
    simp only [List.getElem?_cons_zero, Option.some.injEq] at h
    subst h
    rfl
  | x :: L, i + 1, r, h => fun E => by
    have := rrs_at (L := L) (i := i) (r := r) (by simpa using h) E
    rw [show (i + 1) * 4 = i * 4 + 4 by omega]
    exact this
theorem RecB.at_ {w : World} {lo : Nat} {A : Option Addr} {L : List RR} {i : Nat} {r : RR} (h : RecB w lo A L) (hi : L[i]? = some r) : ∃ q cs, A = some ⟨q, 0, none⟩ ∧ lo ≤ q ∧ Blk w q 46 cs ∧ (cs.drop (i * 4)).take 4 = rr8 r ∧ (cs.drop (i * 4 + 2)).take 2 = plc r.x r.k ∧ cs[i * 4]? = some (.int .u8 ((r.kind.toNat : Nat) : Int)) ∧ cs[i * 4 + 1]? = some (.string ⟨r.body.toArray⟩) ∧ cs[i * 4 + 2]? = some (.int .i64 (r.x : Int)) := by
  obtain ⟨q, E, h1, h2, h3⟩ := h (by rintro rfl; simp at hi)
  have h4 := rrs_at hi E
  have hk : ∀ j v, (rr8 r)[j]? = some v → (L.flatMap rr8 ++ E)[i * 4 + j]? = some v := fun j v hv => by
    rw [← h4] at hv
    have hj : j < 4 := by have := get_lt hv; rw [List.length_take] at this; omega
    rw [List.getElem?_take, if_pos hj, List.getElem?_drop] at hv
    exact hv
  refine ⟨q, _, h1, h2, h3, h4, ?_, hk 0 _ rfl, hk 1 _ rfl, hk 2 _ rfl⟩
  have := congrArg (fun l => (l.drop 2).take 2) h4
  simp only [List.drop_take, List.take_take, List.drop_drop] at this
  rw [show min 2 (4 - 2) = 2 from rfl] at this
  exact this
theorem RecB.row {w : World} {lo : Nat} {A : Option Addr} {L : List RR} (h : RecB w lo A L) : Row w w.heap.size A (L.flatMap rr8) := fun j u hu => by
  obtain ⟨q, E, h1, h2, h3⟩ := h (by rintro rfl; simp at hu)
  refine ⟨⟨q, 0, none⟩, h1, h3.lt, ?_⟩
  rw [add_off, Nat.zero_add, h3.cell, List.getElem?_append_left (get_lt hu)]
  exact hu
theorem RecB.of {w : World} {lo c : Nat} {A : Option Addr} {L : List RR} {n : Nat} (hn : n = L.length) (h : w.ownsRow lo 46 4 (.slice A n c) n (L.flatMap rr8)) : RecB w lo A L := fun hl => by
  obtain ⟨q, E, h1, h2, _, hB, _⟩ := own_blk4 h (by cases L with | nil => exact absurd rfl hl | cons x L => rw [hn, List.length_cons]; omega)
  exact ⟨q, E, h1, h2, hB⟩
theorem infoRec : (Tryz.prog.info? 46).map (fun i => (i.zero, i.size, i.bytes)) = some (some (.agg #[.int .u8 0, .string ⟨#[]⟩, .int .i64 0, .int .i64 0]), 4, 40) := by kernel_rfl
theorem aggRc : ∀ w, (isAgg 46).run Tryz.prog w = .ok true w := fun _ => by kernel_rfl
theorem sizeRc : ∀ w, (sizeOf 46).run Tryz.prog w = .ok 4 w := fun _ => by kernel_rfl
/-- append of records that are read, to records of the call's own -/
theorem run_append_recs {w : World} {base : Nat} {v : Value} {n : Nat} {xs : List Value} (ty : TypeId) (hown : w.ownsRow base 46 4 v n xs) (A : Option Addr) (m c : Nat) (L : List RR) (hm : L.length = m) (B : Nat) (hr : Row w B A (L.flatMap rr8))
    (hnm : n + m ≤ 100000) (hbase : base ≤ w.heap.size) :
    ∃ A' c' w', (Builtin.append_ #[38, 38] ty #[v, .slice A m c]).run Tryz.prog w = .ok (.slice A' (n + m) c') w' ∧ w'.ownsRow base 46 4 (.slice A' (n + m) c') (n + m) (xs ++ L.flatMap rr8) ∧ w.grownBy w' v.ownBlock := by
  obtain ⟨ti, hi, hz, hs, hby⟩ := info_parts infoRec
  cases A with
  | some ad =>
    obtain ⟨v', w', h0, h1, h2, _, _⟩ := run_append_own_at (P := Tryz.prog) w base 38 ty 46 ti _ 4 40 Tryz.underlying38 hi hz hs hby rfl (by omega) v n xs hown ad m c (L.flatMap rr8) (by rw [rrs_length, hm]) (fun j u hu => by obtain ⟨a', e, _, hc⟩ := hr j u hu; cases e; exact hc) (rrs_one L) (by simp only [maxLen]; omega) (by omega) hbase
    obtain ⟨A', c', rfl, _, _⟩ := own_shape h1
    exact ⟨A', c', w', h0, h1, h2⟩
  | none =>
    obtain rfl : L = [] := by
      cases L with
      | nil => rfl
      | cons l r =>
        obtain ⟨a', e, _⟩ := hr 0 _ rfl
        cases e
    obtain rfl : m = 0 := by simpa using hm.symm
    obtain ⟨A', c', rfl, hc1, hc2⟩ := own_shape hown
    refine ⟨A', c', w, ?_, by simpa using hown, World.grownBy.refl w _⟩
    rcases hown.2 with ⟨hv', h0⟩ | ⟨g, cap, cur, hv', _, _, hnc, _⟩
    · cases hv'
      simp [Builtin.append_, run_underlying Tryz.underlying38, sizeOf, typeInfo, hi, Builtin.lenOf, Builtin.firstCells]
    · cases hv'
      simp [Builtin.append_, run_underlying Tryz.underlying38, sizeOf, typeInfo, hi, Builtin.lenOf, Builtin.firstCells, hnc, storeCells]
theorem wpl_append_recs {w : World} {base : Nat} {v : Value} {n : Nat} {xs : List Value} {ops : Array Oper} {rest : List Oper} {o : Oper} {a : Act} {Q : Exit → Act → World → Prop}
    (hgd : Region.wanted o (yielded ops a.tmps) = true) (s x : Operand)
    (ho : o.op = .call { callee := .builtin .append, args := #[s, x], argTypes := #[38, 38] })
    (hv : a.eval s = v) (hown : w.ownsRow base 46 4 v n xs) (A : Option Addr) (m c : Nat) (L : List RR) (hm : L.length = m) (hx : a.eval x = .slice A m c) (B : Nat) (hr : Row w B A (L.flatMap rr8))
    (hnm : n + m ≤ 100000) (hbase : base ≤ w.heap.size) (k : Nat) (hk : n + m = k)
    (h : ∀ A' c' w', w'.ownsRow base 46 4 (.slice A' k c') k (xs ++ L.flatMap rr8) → w.grownBy w' v.ownBlock → wpList Tryz.prog ops Q rest (a.put o.dst (.slice A' k c')) w') : wpList Tryz.prog ops Q (o :: rest) a w := by
  subst hk
  obtain ⟨A', c', w', h0, h1, h2⟩ := run_append_recs o.type hown A m c L hm B hr hnm hbase
  refine BigFrame.wpList_want hgd fun K hK => ?_
  unfold Oper.wp execOp
  simp only [ho, resolve, invoke, builtin, Sem.run_bind, Sem.run_pure, Result.andThen_ok, List.map_toArray, List.map_cons, List.map_nil, hv, hx, h0]
  exact hK _ _ (h A' c' w' h1 h2)
/-- the same at a step of a region that draws its order -/
theorem step_append_recs {w : World} {base : Nat} {v : Value} {n : Nat} {xs : List Value} {ops : Array Oper} {o : Oper} {a : Act} {K : Act → World → Prop} {Q : Exit → Act → World → Prop} {E : Prop}
    (hgd : Region.wanted o (yielded ops a.tmps) = true) (s x : Operand)
    (ho : o.op = .call { callee := .builtin .append, args := #[s, x], argTypes := #[38, 38] })
    (hv : a.eval s = v) (hown : w.ownsRow base 46 4 v n xs) (A : Option Addr) (m c : Nat) (L : List RR) (hm : L.length = m) (hx : a.eval x = .slice A m c) (B : Nat) (hr : Row w B A (L.flatMap rr8))
    (hnm : n + m ≤ 100000) (hbase : base ≤ w.heap.size) (k : Nat) (hk : n + m = k)
    (h : ∀ A' c' w', w'.ownsRow base 46 4 (.slice A' k c') k (xs ++ L.flatMap rr8) → w.grownBy w' v.ownBlock → K (a.put o.dst (.slice A' k c')) w') :
    if Region.wanted o (yielded ops a.tmps) = true then Oper.wp Tryz.prog o a w K Q else E := by
  rw [if_pos hgd]
  subst hk
  obtain ⟨A', c', w', h0, h1, h2⟩ := run_append_recs o.type hown A m c L hm B hr hnm hbase
  unfold Oper.wp execOp
  simp only [ho, resolve, invoke, builtin, Sem.run_bind, Sem.run_pure, Result.andThen_ok, List.map_toArray, List.map_cons, List.map_nil, hv, hx, h0]
  exact h A' c' w' h1 h2
set_option maxRecDepth 100000 in
set_option maxHeartbeats 4000000 in
theorem right_any (kind : UInt8) (n : Nat) (w : World) : Calls Tryz.prog 28 #[.int .u8 ((kind.toNat : Nat) : Int), .int .i64 (n : Int)] w fun e w' => e = .returned (.bool (decide (3 < kind.toNat ∧ kind.toNat < 255 ∧ n ≤ 240))) ∧ w = w' := by
  obtain ⟨k, hk⟩ : ∃ k, kind.toNat = k := ⟨_, rfl⟩
  obtain ⟨rb, hrb⟩ : ∃ rb, decide (3 < kind.toNat ∧ kind.toNat < 255 ∧ n ≤ 240) = rb := ⟨_, rfl⟩
  rw [hrb, hk]
  rw [hk] at hrb
  have HR := Lib.hid hrb
  clear hk hrb
  by_cases h1 : (3 : Int) < (k : Int)
  · by_cases h2 : (k : Int) < 255
    · by_cases h3 : (n : Int) ≤ 240
      · obtain rfl : rb = true := by rw [← HR.out, decide_eq_true (by omega)]
        clear HR
        go_enter Tryz.func28, Tryz.ntmps28
        go_wp2
        go_ret
        exact ⟨rfl, rfl⟩
      · obtain rfl : rb = false := by rw [← HR.out, decide_eq_false (by omega)]
        have d3 : decide ((n : Int) ≤ 240) = false := by simp; omega
        clear HR
        go_enter Tryz.func28, Tryz.ntmps28
        go_wp2
        go_ret
        exact ⟨rfl, rfl⟩
    · obtain rfl : rb = false := by rw [← HR.out, decide_eq_false (by omega)]
      have d2 : decide ((k : Int) < 255) = false := by simp; omega
      clear HR
      go_enter Tryz.func28, Tryz.ntmps28
      go_wp2
      go_ret
      exact ⟨rfl, rfl⟩
  · obtain rfl : rb = false := by rw [← HR.out, decide_eq_false (by omega)]
    have d1 : decide ((3 : Int) < (k : Int)) = false := by simp; omega
    clear HR
    go_enter Tryz.func28, Tryz.ntmps28
    go_wp2
    go_ret
    exact ⟨rfl, rfl⟩
end Go.Proofs.YtdiocjneakfdgaaGreatDoor

/- The document's Without at a list of records; texts joined. No condition. -/
namespace Go.Proofs.YtdiocjneakfdgaaGreatDoor
open Go.RowKit
theorem without_snoc {L : List RR} {i : Nat} {r : RR} {z : Int} (h : L[i]? = some r) : without (L.take (i + 1)) z = without (L.take i) z ++ if (r.x : Int) = z then [] else [r] := by
  unfold without
  rw [List.take_add_one, h, List.filter_append]
  by_cases e : (r.x : Int) = z
  · rw [if_pos e]
    simp [e]
  · rw [if_neg e]
    simp [e]
theorem without_le (L : List RR) (z : Int) : (without L z).length ≤ L.length := List.length_filter_le _ _
set_option maxRecDepth 100000 in
set_option maxHeartbeats 8000000 in
theorem without_any (A : Option Addr) (L : List RR) (c : Nat) (z : Int) (w : World) (lo : Nat) (hL : RecB w lo A L) (hlen : L.length ≤ 1000) :
    Calls Tryz.prog 10 #[.slice A L.length c, .int .i64 z] w fun e w' => ∃ A' c', e = .returned (.slice A' (without L z).length c') ∧ RecB w' w.heap.size A' (without L z) ∧ Below w.heap.size w w' := by
  have HL := Lib.hid hL
  clear hL
  go_enter Tryz.func10, Tryz.ntmps10
  go_wp2_with fail
  have b0 := Lib.hid ((Below.refl w.heap.size w).alloc (Nat.le_refl _) (.cells #[] 46))
  have O0 := Lib.hid (World.ownsRow_made (size := 4) (e := 46) (base := w.heap.size) w #[] 0 (Nat.le_refl _) (by simp [maxLen]) rfl)
  go_loopw [5, 6] (fun vo vi wr => ∃ (i n c' : Nat) (A' : Option Addr), vi = .int .i64 (i : Int) ∧ vo = .slice A' n c' ∧ i ≤ L.length ∧ n ≤ i ∧ Hid (n = (without (L.take i) z).length) ∧ Hid (wr.ownsRow w.heap.size 46 4 (.slice A' n c') n ((without (L.take i) z).flatMap rr8)) ∧ Hid (Below w.heap.size w wr)) (fun _ vi _ => L.length - (intOf vi).toNat)
  case atStart => exact ⟨0, 0, 0, _, rfl, rfl, Nat.zero_le _, Nat.le_refl _, Lib.hid rfl, O0, b0⟩
  case round =>
    obtain ⟨i, n, c', A', rfl, rfl, hi, hni, HN, HO, HB⟩ := hrel
    clear b0 O0
    by_cases hlt : i < L.length
    · obtain ⟨⟨rk, rb, rx, rp⟩, hr⟩ : ∃ r, L[i]? = some r := ⟨_, List.getElem?_eq_getElem hlt⟩
      obtain ⟨q, cs, rfl, _, hB, h4, _, _, _, h0⟩ := (HL.out.after HB.out).at_ hr
      have c0 : wr.cell? ⟨q, i * 4 + 2, none⟩ = some (.int .i64 (rx : Int)) := (hB.cell _).trans h0
      have HT := Lib.hid (without_snoc (z := z) hr)
      have HBB := Lib.hid hB
      clear hr hB h0
      by_cases hz : (rx : Int) = z
      · have hd : ((rx : Int) != z) = false := by simpa using hz
        rw [show (RR.mk rk rb rx rp).x = rx from rfl, if_pos hz, List.append_nil] at HT
        clear hz h4
        go_wp2
        go_roundw
        case rel => exact ⟨i + 1, n, c', A', by go_num, rfl, by omega, by omega, Lib.hid (by rw [HT.out]; exact HN.out), Lib.hid (by rw [HT.out]; exact HO.out), HB⟩
        case measure => simp [intOf]; omega
      · have hd : ((rx : Int) != z) = true := by simpa using hz
        rw [show (RR.mk rk rb rx rp).x = rx from rfl, if_neg hz] at HT
        obtain ⟨kn, hkn⟩ : ∃ kn : Int, ((rk.toNat : Nat) : Int) = kn := ⟨_, rfl⟩
        obtain ⟨S, hS⟩ : ∃ S : ByteArray, ⟨rb.toArray⟩ = S := ⟨_, rfl⟩
        have H4 := Lib.hid (show (cs.drop (i * 4)).take 4 = [.int .u8 kn, .string S, .int .i64 (rx : Int), .int .i64 (rp : Int)] by rw [h4, ← hkn, ← hS]; rfl)
        have HE := Lib.hid (show ([⟨rk, rb, rx, rp⟩] : List RR).flatMap rr8 = [.int .u8 kn, .string S, .int .i64 (rx : Int), .int .i64 (rp : Int)] by rw [← hkn, ← hS]; rfl)
        have ON := Lib.hid (HO.out.alloc (.cells #[.int .u8 kn, .string S, .int .i64 (rx : Int), .int .i64 (rp : Int)] 46))
        have RN := Lib.hid (show Row (wr.alloc (.cells #[.int .u8 kn, .string S, .int .i64 (rx : Int), .int .i64 (rp : Int)] 46)) (wr.heap.size + 1) (some ⟨wr.heap.size, 0, none⟩) (([⟨rk, rb, rx, rp⟩] : List RR).flatMap rr8) from by rw [HE.out]; exact Row.new wr #[.int .u8 kn, .string S, .int .i64 (rx : Int), .int .i64 (rp : Int)] _ _ _ rfl (Nat.lt_succ_self _))
        clear hz h4 hkn hS
        go_wp2_with (first
          | (with_reducible refine wpl_seg_load aggRc sizeRc (.tmp 25) rfl rfl HBB.out (i * 4) _ H4.out rfl rfl ?_)
          | (at_builtin; refine wpl_append_recs rfl (.tmp 22) (.tmp 27) rfl rfl ON.out _ 1 1 [⟨rk, rb, rx, rp⟩] rfl rfl _ RN.out (by omega) (by rw [World.size_alloc]; have := HB.out.size; omega) (n + 1) rfl ?_; intro A8 c8 w8 h8 g8; have O8 := Lib.hid h8; have B8 := Lib.hid ((HB.out.alloc HB.out.size (.cells #[.int .u8 kn, .string S, .int .i64 (rx : Int), .int .i64 (rp : Int)] 46)).grown g8 (by rw [World.size_alloc]; have := HB.out.size; omega) (fun b hb => (HO.out.lt b hb).1)); clear h8 g8))
        go_roundw
        case rel => exact ⟨i + 1, n + 1, c8, A8, by go_num, rfl, by omega, by omega, Lib.hid (by rw [HT.out, List.length_append, ← HN.out]; rfl), Lib.hid (by rw [HT.out, List.flatMap_append]; exact O8.out), B8⟩
        case measure => simp [intOf]; omega
    · obtain rfl : i = L.length := by omega
      have HN2 := HN.out
      have HO2 := HO.out
      rw [List.take_length] at HN2 HO2
      have HN3 := Lib.hid HN2
      have HO3 := Lib.hid HO2
      clear HN HO HN2 HO2
      go_wp2
      go_ret
      exact ⟨A', c', (by have hn := HN3.out; subst hn; rfl), RecB.of HN3.out HO3.out, HB.out⟩
theorem str_cat (x y : List UInt8) : (⟨x.toArray⟩ : ByteArray) ++ ⟨y.toArray⟩ = ⟨(x ++ y).toArray⟩ := by
  apply ByteArray.ext
  simp
theorem flat_bound {L : List (List UInt8)} {m : Nat} (h : ∀ l ∈ L, l.length ≤ m) : L.flatten.length ≤ L.length * m := by
  induction L with
  | nil => simp
  | cons l L ih =>
    rw [List.flatten_cons, List.length_append, List.length_cons]
    have h1 := h l List.mem_cons_self
    have h2 := ih (fun y hy => h y (List.mem_cons_of_mem _ hy))
    rw [Nat.add_mul]
    omega
set_option maxRecDepth 100000 in
set_option maxHeartbeats 4000000 in
theorem joined_any (v : Value) (L : List (List UInt8)) (w w0 : World) (hp : Parts w0 w0.heap.size v L) (hb : Below w0.heap.size w0 w) (h5 : L.length ≤ 5) (h260 : ∀ l ∈ L, l.length ≤ 260) :
    Calls Tryz.prog 27 #[v] w fun e w' => e = .returned (.string ⟨L.flatten.toArray⟩) ∧ w = w' := by
  obtain ⟨A, c, vs, hv, hr, he, hlen⟩ := id hp
  subst hv
  have hvl : vs.length ≤ 5 := by rw [he.1]; exact h5
  have HF : Hid (L.take vs.length = L) := Lib.hid (by rw [he.1]; exact List.take_length)
  have HE := Lib.hid he
  have HR := Lib.hid hr
  have HB := Lib.hid hb
  have HM := Lib.hid h260
  clear hp hlen he hr hb h5 h260
  go_enter Tryz.func27, Tryz.ntmps27
  go_wp2_with fail
  go_loopw [3, 5, 8] (fun z _ i wr => ∃ k : Nat, k ≤ vs.length ∧ i = .int .i64 k ∧ (∃ Z : ByteArray, z = .string Z ∧ Z.size ≤ 1000 * k ∧ Hid (Z = ⟨(L.take k).flatten.toArray⟩)) ∧ Hid (wr = w)) (fun _ _ i _ => vs.length - (intOf i).toNat)
  case atStart => exact ⟨0, Nat.zero_le _, rfl, ⟨_, rfl, by decide, (by first | exact Lib.hid rfl | trivial)⟩, (by first | exact Lib.hid rfl | trivial)⟩
  case round =>
    obtain ⟨k, hk, rfl, ⟨Z, rfl, hZ1, hZ⟩, HW⟩ := hrel
    have hW := HW.out
    subst hW
    by_cases hlt2 : k < vs.length
    · obtain ⟨a, rfl, hab, hcell⟩ := HR.out.at_ hlt2
      obtain ⟨l, hl, hBy⟩ := HE.out.at_ hlt2
      have hby := hBy.below HB.out
      obtain ⟨Ai, ci, hv, hlc, hcm, hrow⟩ := hBy
      have hc2 := (HB.out.cell (p := a.add k) (by rw [add_block]; exact hab)).trans hcell
      rw [hv] at hc2 hby
      have S8 := str_of hby
      have HL := Lib.hid hl
      have hl2 : l.length ≤ 260 := HM.out l (List.mem_of_getElem? hl)
      have hZs : (⟨l.toArray⟩ : ByteArray).size = l.length := by simp [ByteArray.size]
      clear hv hl hcell hby hrow hcm
      go_wp2
      go_roundw
      case rel =>
        refine ⟨k + 1, by omega, by go_num, ⟨_, rfl, ?_, Lib.hid ?_⟩, (by first | exact Lib.hid rfl | trivial)⟩
        · rw [ByteArray.size_append]
          omega
        · show _ = _
          rw [hZ.out, str_cat, take_snoc L HL.out, List.flatten_append]
          simp
      case measure => simp [intOf]; omega
    · obtain rfl : k = vs.length := by omega
      have hZ2 := hZ.out
      rw [HF.out] at hZ2
      have HZ2 := Lib.hid hZ2
      clear hZ hZ2
      go_wp2
      go_ret
      exact ⟨(by have hz := HZ2.out; subst hz; rfl), rfl⟩
end Go.Proofs.YtdiocjneakfdgaaGreatDoor

/- The document's Has at a list of records. No condition. -/
namespace Go.Proofs.YtdiocjneakfdgaaGreatDoor
open Go.RowKit
theorem yields_rec {ops : Array Oper} {o : Oper} {a : Act} {S : World → Prop} {g n c i : Nat} (x y : Operand) (ho : o.op = .indexAddr 38 x y) (hgd : Region.wanted o (yielded ops a.tmps) = true)
    (hx : a.eval x = .slice (some ⟨g, 0, none⟩) n c) (hy : a.eval y = .int .i64 (i : Int)) (hi : i < n) : YieldsIf Tryz.prog ops S o (.pointer (some ⟨g, i * 4, none⟩)) a :=
  .inl ⟨hgd, fun w hw => by
    have h0 : (0 : Int) ≤ (i : Int) ∧ (i : Int) < (n : Int) := by omega
    unfold execOp
    simp only [ho, hx, hy]
    by_cases e : i = 0
    · subst e
      simp [Instr.indexAt, asIntOf, Sem.run_bind, Result.andThen_ok, Addr.add, hi]
    · simp [Instr.indexAt, asIntOf, Sem.run_bind, Result.andThen_ok, h0, Addr.add, hi]
      omega⟩
/-- '==' on places, in a region that draws its order -/
theorem yields_pleq {ops : Array Oper} {o : Oper} {a : Act} {S : World → Prop} {x1 k1 x2 k2 : Nat} (x y : Operand) (ho : o.op = .binOp .eql 44 x y 44) (hgd : Region.wanted o (yielded ops a.tmps) = true)
    (hx : a.eval x = .agg (plc x1 k1).toArray) (hy : a.eval y = .agg (plc x2 k2).toArray) (r : Bool) (hr : decide (x1 = x2 ∧ k1 = k2) = r) : YieldsIf Tryz.prog ops S o (.bool r) a :=
  .inl ⟨hgd, fun w hw => by
    subst hr
    have hx' : a.eval x = .agg #[.int .i64 (x1 : Int), .int .i64 (k1 : Int)] := hx
    have hy' : a.eval y = .agg #[.int .i64 (x2 : Int), .int .i64 (k2 : Int)] := hy
    clear hx hy hw
    unfold execOp
    simp only [ho, hx', hy']
    clear hx' hy' ho hgd
    by_cases h1 : x1 = x2
    · subst h1
      by_cases h2 : k1 = k2
      · subst h2
        rw [decide_eq_true ⟨rfl, rfl⟩]
        go_simp
      · have e2 : ((k1 : Int) == (k2 : Int)) = false := by rw [beq_eq_false_iff_ne]; omega
        rw [decide_eq_false (fun q => h2 q.2)]
        go_simp
    · have e1 : ((x1 : Int) == (x2 : Int)) = false := by rw [beq_eq_false_iff_ne]; omega
      rw [decide_eq_false (fun q => h1 q.1)]
      go_simp⟩
set_option maxRecDepth 100000 in
set_option maxHeartbeats 4000000 in
/-- no record stands there -/
theorem has_no (A : Option Addr) (L : List RR) (c : Nat) (x k : Nat) (w : World) (lo : Nat) (hL : RecB w lo A L) (hlen : L.length ≤ 100000) (hno : ∀ q ∈ L, ¬ (q.x = x ∧ q.k = k)) :
    Calls Tryz.prog 29 #[.slice A L.length c, .agg (plc x k).toArray] w fun e w' => e = .returned (.bool false) ∧ Below w.heap.size w w' := by
  show Calls Tryz.prog 29 #[.slice A L.length c, .agg #[.int .i64 (x : Int), .int .i64 (k : Int)]] w _
  have HL := Lib.hid hL
  have HN := Lib.hid hno
  have b1 := Lib.hid ((Below.refl w.heap.size w).alloc (Nat.le_refl _) (.cells #[.int .i64 (x : Int), .int .i64 (k : Int)] 44))
  have R1 := Lib.hid (show Blk (w.alloc (.cells #[.int .i64 (x : Int), .int .i64 (k : Int)] 44)) w.heap.size 44 (plc x k) from Blk.new w 44 (plc x k))
  clear hL hno
  go_enter Tryz.func29, Tryz.ntmps29
  go_wp2_with fail
  obtain ⟨V, hV⟩ : ∃ V, w.alloc (.cells #[.int .i64 (x : Int), .int .i64 (k : Int)] 44) = V := ⟨_, rfl⟩
  obtain ⟨s, hs⟩ : ∃ s, w.heap.size = s := ⟨_, rfl⟩
  have HS := Lib.hid hs
  have L1 : Hid (RecB V lo A L) := Lib.hid (by rw [← hV]; exact HL.out.after b1.out)
  rw [hV] at b1 R1 ⊢
  rw [hs] at R1 ⊢
  clear hV hs HL
  go_loopw [5] (fun vi wr => ∃ i : Nat, vi = .int .i64 (i : Int) ∧ i ≤ L.length ∧ Hid (Below V.heap.size V wr)) (fun vi _ => L.length - (intOf vi).toNat)
  case atStart => exact ⟨0, rfl, Nat.zero_le _, Lib.hid (Below.refl _ _)⟩
  case round =>
    obtain ⟨i, rfl, hi, HB⟩ := hrel
    by_cases hlt : i < L.length
    · obtain ⟨r, hr⟩ : ∃ r, L[i]? = some r := ⟨_, List.getElem?_eq_getElem hlt⟩
      have hne := HN.out r (List.mem_of_getElem? hr)
      obtain ⟨q, cs, rfl, z1, hB, z2, h2, z3⟩ := (L1.out.after HB.out).at_ hr
      clear z1 z2 z3
      obtain ⟨y, hy⟩ : ∃ y, r.x = y := ⟨_, rfl⟩
      obtain ⟨m, hm⟩ : ∃ m, r.k = m := ⟨_, rfl⟩
      rw [hy, hm] at hne h2
      have R3 := R1.out.below HB.out R1.out.lt
      have S0 : Below wr.heap.size wr wr.drew := (Below.refl _ _).drew
      have HB9 : Hid (∀ w', Below wr.heap.size wr w' → Blk w' q 46 cs) := Lib.hid (fun w' hb => hB.after hb)
      have HR9 : Hid (∀ w', Below wr.heap.size wr w' → Blk w' s 44 (plc x k)) := Lib.hid (fun w' hb => R3.after hb)
      have H2 := Lib.hid h2
      have HNE := Lib.hid (decide_eq_false hne)
      clear hr hy hm hne hB R3 h2
      go_wp2_with fail
      refine wp_region_held_drew (S := (fun w' => Below wr.heap.size wr w')) (by kernel_rfl) S0 (fun _ => ?_)
      refine wpAnyH_take (i := 0) (v := .slice (some ⟨q, 0, none⟩) L.length c) rfl (by kernel_rfl) (by kernel_rfl) (by kernel_rfl) (fun _ _ _ h => h) (Or.inl ⟨by kernel_rfl, fun w _ => by go_simp⟩) S0 ?_
      refine wpAnyH_take (i := 1) (v := .int .i64 (i : Int)) rfl (by kernel_rfl) (by kernel_rfl) (by kernel_rfl) (fun _ _ _ h => h) (Or.inl ⟨by kernel_rfl, fun w _ => by go_simp⟩) S0 ?_
      refine wpAnyH_take (i := 2) (v := .pointer (some ⟨q, i * 4, none⟩)) rfl (by kernel_rfl) (by kernel_rfl) (by kernel_rfl) (fun _ _ _ h => h) (yields_rec (c := c) (.tmp 12) (.tmp 13) (by kernel_rfl) (by kernel_rfl) (by kernel_rfl) (by kernel_rfl) hlt) S0 ?_
      refine wpAnyH_take (i := 3) (v := .pointer (some ⟨q, i * 4 + 2, none⟩)) rfl (by kernel_rfl) (by kernel_rfl) (by kernel_rfl) (fun _ _ _ h => h) (Or.inl ⟨by kernel_rfl, fun w _ => by go_simp⟩) S0 ?_
      refine wpAnyH_take (i := 4) (v := .agg (plc y m).toArray) rfl (by kernel_rfl) (by kernel_rfl) (by kernel_rfl) (fun _ _ _ h => h) (yields_seg aggPl sizePl (.tmp 15) (by kernel_rfl) (by kernel_rfl) (by kernel_rfl) (g := q) (i := i * 4 + 2) HB9.out H2.out rfl) S0 ?_
      refine wpAnyH_take (i := 5) (v := .agg (plc x k).toArray) rfl (by kernel_rfl) (by kernel_rfl) (by kernel_rfl) (fun _ _ _ h => h) (yields_seg aggPl sizePl (.tmp 3) (by kernel_rfl) (by kernel_rfl) (by kernel_rfl) (g := s) (i := 0) HR9.out rfl rfl) S0 ?_
      refine wpAnyH_take (i := 6) (v := .bool false) rfl (by kernel_rfl) (by kernel_rfl) (by kernel_rfl) (fun _ _ _ h => h) (yields_pleq (.tmp 16) (.tmp 17) (by kernel_rfl) (by kernel_rfl) (by kernel_rfl) (by kernel_rfl) false HNE.out) S0 ?_
      refine wpAnyH_done (by kernel_rfl) ?_ _
      go_simp
      go_wp2
      go_roundw
      case rel => exact ⟨i + 1, by go_num, by omega, Lib.hid HB.out.drew⟩
      case measure => simp [intOf]; omega
    · obtain rfl : i = L.length := by omega
      go_wp2
      go_ret
      exact ⟨rfl, b1.out.trans (HB.out.mono b1.out.size)⟩
end Go.Proofs.YtdiocjneakfdgaaGreatDoor

