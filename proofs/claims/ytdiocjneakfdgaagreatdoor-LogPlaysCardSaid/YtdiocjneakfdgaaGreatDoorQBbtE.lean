/- Several texts of the proof, joined: what each has is said at its head. -/
import Derived.Test.YtdiocjneakfdgaaGreatDoorQBbtKept
import Derived.Test.YtdiocjneakfdgaaGreatDoorQNandN
/- What look finds, by definition; the value that it builds. No condition. -/
namespace Go.Proofs.YtdiocjneakfdgaaGreatDoor
open Go.RowKit
theorem keptFields : ∃ fields : Array Field, Tryz.prog.underlying 159 = some (.struct fields) ∧ ∀ w, (fields.mapM fun (f : Field) => do pure (f.offset, ← sizeOf f.type)).run Tryz.prog w = .ok keptPlaces w := ⟨_, Tryz.underlying159, fun w => by kernel_rfl⟩
theorem buildKept {r : List Value} (hr : r.length = 75) (z b : Int) {p : List UInt8} (hp : p.length = 258) (w : World) :
    (Instr.build 159 #[(0, .agg r.toArray), (1, .int .u64 z), (2, .int .i64 b), (3, .agg (cl p))]).run Tryz.prog w = .ok (.agg (r ++ (.int .u64 z :: .int .i64 b :: bv p)).toArray) w := by
  obtain ⟨fields, h1, h2⟩ := keptFields
  have h3 := fill4 r hr (.int .u64 z) (.int .i64 b) rfl rfl p hp
  unfold Instr.build
  simp only [Sem.run_bind, zeroKept, Result.andThen_ok, run_underlying h1, h2]
  rw [show (Value.agg Kp.zero.row.toArray).cells = Kp.zero.row.toArray from rfl, h3]
  rfl
/-- a value is built out of parts -/
theorem wpl_built {P : Program} {w : World} {ops : Array Oper} {rest : List Oper} {o : Oper} {a : Act} {Q : Exit → Act → World → Prop} {ty : TypeId} {v : Value} (parts : List (Nat × Operand)) (vals : List (Nat × Value)) (ho : o.op = .build ty parts.toArray) (hgd : Region.wanted o (yielded ops a.tmps) = true)
    (hv : (parts.map fun x => (x.1, a.eval x.2)) = vals) (hrun : (Instr.build ty vals.toArray).run P w = .ok v w) (h : wpList P ops Q rest (a.put o.dst v) w) : wpList P ops Q (o :: rest) a w := by
  subst hv
  refine BigFrame.wpList_want hgd fun K hK => ?_
  unfold Oper.wp execOp
  simp only [ho, List.map_toArray, Sem.run_bind, hrun, Result.andThen_ok, Sem.run_pure]
  exact hK _ _ h
/-- of what was found and the table of a page: the one that counts more -/
def pickK (T : Option (Nat × Lay)) (f : Option Kp) (b : Nat) (pg : List UInt8) : Option Kp :=
  match T, f with
  | none, f => f
  | some x, none => some ⟨x.1, x.2, b, pg⟩
  | some x, some g => if x.1 < g.num then some ⟨x.1, x.2, b, pg⟩ else some g
def lookAt (n : Nat) (bs : List Bk) (f : Option Kp) (b k : Nat) : Option Kp := pickK (tableOf n (pageOf bs b k)) f b (pageOf bs b k)
/-- what is found in the first i pages -/
def lookTo (bs : List Bk) : Nat → Option Kp
  | 0 => none
  | i + 1 => lookAt bs.length bs (lookTo bs i) (i / 8) (i % 8)
def Kp.ok (k : Kp) : Prop := k.lay.ok ∧ k.pg.length = 258
theorem tableOf_ok {n : Nat} (h1 : 16 ≤ n) (h2 : n ≤ 40) {L : List UInt8} {x : Nat × Lay} (h : tableOf n L = some x) : x.2.ok := by
  unfold tableOf at h
  split at h
  · obtain ⟨l, hl, rfl⟩ := Option.map_eq_some_iff.1 h
    exact parse_ok h1 h2 hl
  · cases h
theorem lookAt_ok {bs : List Bk} (hb : ∀ x ∈ bs, x.ok) (h1 : 16 ≤ bs.length) (h2 : bs.length ≤ 40) {f : Option Kp} (hf : ∀ k, f = some k → k.ok) {b k : Nat} (h3 : b < bs.length) (h4 : k < 8) : ∀ g, lookAt bs.length bs f b k = some g → g.ok := by
  intro g hg
  have hp := pageOf_length hb h3 h4
  unfold lookAt pickK at hg
  cases ht : tableOf bs.length (pageOf bs b k) with
  | none => rw [ht] at hg; exact hf g hg
  | some x =>
    rw [ht] at hg
    have hx := tableOf_ok h1 h2 ht
    cases f with
    | none => simp only [Option.some.injEq] at hg; subst hg; exact ⟨hx, hp⟩
    | some q =>
      simp only at hg
      split at hg
      · simp only [Option.some.injEq] at hg; subst hg; exact ⟨hx, hp⟩
      · exact hf g hg
theorem lookTo_ok {bs : List Bk} (hb : ∀ x ∈ bs, x.ok) (h1 : 16 ≤ bs.length) (h2 : bs.length ≤ 40) : ∀ i, i ≤ 16 → ∀ k, lookTo bs i = some k → k.ok
  | 0, _, k, h => by cases h
  | i + 1, hi, k, h => lookAt_ok hb h1 h2 (lookTo_ok hb h1 h2 i (by omega)) (by omega) (by omega) k h
theorem keptOf_length {f : Option Kp} (hf : ∀ k, f = some k → k.ok) : (keptOf f).row.length = 335 := by
  cases f with
  | none => exact Kp.zero_length
  | some k => exact Kp.row_length (Lay.row_length (hf k rfl).1) (hf k rfl).2
def Ch.mayE (S : Ch) (s : NM.Pwr) : Int := NM.may s.off S.live S.bs.length 0 0
def Ch.lookK (S : Ch) (s : NM.Pwr) : Option Kp := if S.mayE s = 0 then lookTo S.bs 16 else none
def noneE (f : Option Kp) : Int := if f.isNone then 35 else 0
def Ch.lookE (S : Ch) (s : NM.Pwr) : Int := if S.mayE s = 0 then noneE (lookTo S.bs 16) else S.mayE s
theorem may_own {off live : Bool} {M b k : Int} (hM : 16 ≤ M) (h1 : 0 ≤ b) (h2 : b < 2) (h3 : 0 ≤ k) (h4 : k < 8) : NM.may off live M b k = NM.may off live M 0 0 := by
  unfold NM.may
  split
  · rfl
  · split
    · rw [if_neg (by omega), if_neg (by omega)]
    · rfl
theorem kept_ret2 {fn : Func} {p u : Tmp} {w : World} {g : Nat} {t : TypeId} {vs : List Value} (h : fn.results = #[.cell p 159, .tmp u]) (tmps : Array Value) (hB : Blk w g t vs) (hn : vs.length = 335) (hp : tmps.getD p undef = .pointer (some ⟨g, 0, none⟩)) :
    (results fn tmps).run Tryz.prog w = .ok (.tuple #[.agg vs.toArray, tmps.getD u undef]) w :=
  sret2 aggKept sizeKept h tmps hB (by rw [List.drop_zero, List.take_of_length_le (by omega)]) hn hp
end Go.Proofs.YtdiocjneakfdgaaGreatDoor

/- The contract of look where the chip doesn't answer. Condition: the chip is there. -/
namespace Go.Proofs.YtdiocjneakfdgaaGreatDoor
open Go.RowKit
set_option maxRecDepth 100000 in
set_option maxHeartbeats 8000000 in
theorem look_off (a : At) (S : Ch) (s : NM.Pwr) (w : World) (hD : Dev w a S s) (he : S.mayE s ≠ 0) :
    Calls Tryz.prog 80 #[.pointer (some ⟨a.c, 0, none⟩)] w fun e w' => e = .returned (.tuple #[.agg Kp.zero.row.toArray, .int .i64 (S.mayE s)]) ∧ Below w.heap.size w w' := by
  have z := zeroKept
  have y0 := buildKept0
  have zp := zeroPage
  have HE := Lib.hid he
  have hz := Kp.zero_length
  have HZ := Lib.hid hz
  have hs0 := segSet_all (hz.trans hz.symm)
  have b0 : Below w.heap.size w ((w.alloc (.cells Kp.zero.row.toArray 159)).alloc (.cells Kp.zero.row.toArray 159)) := ((Below.refl _ _).alloc (Nat.le_refl _) _).alloc (by simp) _
  have R0 : Blk ((w.alloc (.cells Kp.zero.row.toArray 159)).alloc (.cells Kp.zero.row.toArray 159)) w.heap.size 159 Kp.zero.row := (Blk.new w _ _).alloc _
  have F0 : Blk ((w.alloc (.cells Kp.zero.row.toArray 159)).alloc (.cells Kp.zero.row.toArray 159)) (w.heap.size + 1) 159 Kp.zero.row := by
    have := Blk.new (w.alloc (.cells Kp.zero.row.toArray 159)) 159 Kp.zero.row
    rw [World.size_alloc] at this
    exact this
  have HB := Lib.hid b0
  have HR := Lib.hid R0
  have HD := Lib.hid hD
  have hm : NM.may s.off S.live S.bs.length 0 0 = S.mayE s := rfl
  obtain ⟨er, her⟩ : ∃ er, er = S.mayE s := ⟨_, rfl⟩
  rw [← her] at he HE hm
  have HER := Lib.hid her
  have HM := Lib.hid hm
  have hd := he
  clear b0 R0 hD hz her hm he
  go_enter Tryz.func80, Tryz.ntmps80
  go_wp2_with (with_reducible refine wpl_seg_store sizeKept (.tmp 4) (.tmp 13) rfl rfl F0 0 Kp.zero.row HZ.out (by rw [HZ.out]; exact Nat.le_refl _) (Kp.one _) rfl rfl _ hs0 ?_; intro w1 F1 g1 e1)
  have B1 := Lib.hid (HB.out.grown g1 (by simp; omega) (fun k e => by cases e; omega))
  have R1 := Lib.hid (HR.out.grown g1 (by simp))
  have D1 := Lib.hid (HD.out.after B1.out)
  clear F0 F1 g1 e1 HB HR HD
  go_loopw [14] (fun i wr => i = .int .i64 0 ∧ wr = w1) (fun _ _ => 0)
  case atStart => exact ⟨rfl, rfl⟩
  case round =>
    obtain ⟨rfl, rfl⟩ := hrel
    go_wp2_with fail
    go_loopw [17] (fun i wr' => i = .int .i64 0 ∧ wr' = wr) (fun _ _ => 0)
    case atStart => exact ⟨rfl, rfl⟩
    case round =>
      obtain ⟨rfl, rfl⟩ := hrel
      have kr := cread_any a S s 0 0 wr D1.out.pc D1.out.pw
      rw [HM.out, show S.readPage er 0 0 = pzeros from by unfold Ch.readPage; rw [if_neg HE.out]] at kr
      have d1 : (er != 0) = true := by simpa using HE.out
      go_wp2_with (first
        | ((with_reducible refine kr.mono ?_); rintro e w2 ⟨rfl, b2⟩; have N2 := PArr.new w2 pzeros_length; have R2 := Lib.hid ((R1.out.after b2).alloc (.cells (cl pzeros) 92)); have B2 : Hid (Below w.heap.size w (w2.alloc (.cells (cl pzeros) 92))) := Lib.hid ((B1.out.trans (b2.mono B1.out.size)).alloc (Nat.le_trans B1.out.size b2.size) _); have rl2 := Lib.hid (R1.out.after b2).lt)
        | (with_reducible refine wpl_pstore (.tmp 8) (.tmp 25) rfl rfl N2 rfl pzeros_length rfl ?_; intro w3 N3 g3 e3; have R3 := R2.out.grown g3 (by have := rl2.out; simp; omega); have B3 := Lib.hid (B2.out.grown g3 B2.out.size (fun k e => by have := Option.some.inj e; have := rl2.out; omega)))
        | (with_reducible refine wpl_seg_store sizeKept (.tmp 2) (.tmp 29) rfl rfl R3 0 Kp.zero.row HZ.out (by rw [HZ.out]; exact Nat.le_refl _) (Kp.one _) rfl rfl _ hs0 ?_; intro w4 R4 g4 e4))
      refine bodyPost_ret (kept_ret2 rfl _ R4 HZ.out rfl) rfl ?_
      rw [← HER.out]
      exact ⟨rfl, B3.out.grown g4 B3.out.size (fun k e => by have := Option.some.inj e; omega)⟩
end Go.Proofs.YtdiocjneakfdgaaGreatDoor

