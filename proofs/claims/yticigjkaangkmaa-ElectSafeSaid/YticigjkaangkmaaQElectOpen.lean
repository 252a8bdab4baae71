/- The argument that is what is seen of a chip: what it reads as; Choose over chips just handed in. No condition. -/
import Derived.Test.YticigjkaangkmaaQElectL
import Derived.Test.YticigjkaangkmaaQViewOpen
namespace Go.Proofs.Yticigjkaangkmaa
open Go Go.RowKit
def IsChip (u : Value) (c : EC) : Prop := u = .agg (crow c).toArray ∧ c.ok
theorem cellsChip : Try.prog.cellsOf 52 = 41 := by kernel_rfl
def chipTys : List TypeId := [4, 4, 4, 22] ++ (List.replicate 32 5 ++ [48, 22, 22, 3, 22])
theorem typesChip : Try.prog.cellTypes Try.prog.depth 52 = some chipTys := by kernel_rfl
theorem vcell_bool {e : TypeId} {w : World} {r : Reach} {b0 : Nat} {x : Value} (he : Try.prog.underlying e = some .bool) (hk : Cell.okWide Try.prog w r b0 e x) : ∃ b, x = .bool b := by
  simp only [Cell.okWide, Cell.ok, he] at hk
  cases x with
  | bool b => exact ⟨b, rfl⟩
  | _ => exact hk.elim
theorem vu32_wf {z : Int} (h : (Lit.int .u32 z).wf = true) : ∃ n : Nat, z = n := by
  simp only [Lit.wf, Bool.and_eq_true, IntKind.min, IntKind.max, IntKind.signed, IntKind.bits] at h
  simp at h
  exact ⟨z.toNat, by omega⟩
set_option maxRecDepth 100000 in
theorem open_chip {w : World} {r : Reach} {b0 : Nat} {v : Value} (h : Value.okWide Try.prog w r b0 52 v) : ∃ c, IsChip v c := by
  simp only [Value.okWide, Try.underlying52] at h
  obtain ⟨cs, rfl, hs, ts, ht, _, hc⟩ := h
  rw [cellsChip] at hs
  rw [typesChip] at ht
  obtain rfl := Option.some.inj ht
  have hlen : chipTys.length = 41 := by decide
  have at_ : ∀ i (hi : i < 41), ∃ u, chipTys[i]? = some u ∧ Cell.okWide Try.prog w r b0 u (cs[i]'(by omega)) := by
    intro i hi
    obtain ⟨u, hu, hk⟩ := hc i _ (Array.getElem?_eq_getElem (by omega))
    rw [hlen, Nat.mod_eq_of_lt hi] at hu
    exact ⟨u, hu, hk⟩
  obtain ⟨u0, h0, k0⟩ := at_ 0 (by omega)
  obtain ⟨u1, h1, k1⟩ := at_ 1 (by omega)
  obtain ⟨u2, h2, k2⟩ := at_ 2 (by omega)
  obtain ⟨u3, h3, k3⟩ := at_ 3 (by omega)
  obtain ⟨u36, h36, k36⟩ := at_ 36 (by omega)
  obtain ⟨u37, h37, k37⟩ := at_ 37 (by omega)
  obtain ⟨u38, h38, k38⟩ := at_ 38 (by omega)
  obtain ⟨u39, h39, k39⟩ := at_ 39 (by omega)
  obtain ⟨u40, h40, k40⟩ := at_ 40 (by omega)
  obtain rfl : 4 = u0 := Option.some.inj h0
  obtain rfl : 4 = u1 := Option.some.inj h1
  obtain rfl : 4 = u2 := Option.some.inj h2
  obtain rfl : 22 = u3 := Option.some.inj h3
  obtain rfl : 48 = u36 := Option.some.inj h36
  obtain rfl : 22 = u37 := Option.some.inj h37
  obtain rfl : 22 = u38 := Option.some.inj h38
  obtain rfl : 3 = u39 := Option.some.inj h39
  obtain rfl : 22 = u40 := Option.some.inj h40
  obtain ⟨z0, e0⟩ := vcell_bool Try.underlying4 k0
  obtain ⟨z1, e1⟩ := vcell_bool Try.underlying4 k1
  obtain ⟨z2, e2⟩ := vcell_bool Try.underlying4 k2
  obtain ⟨z3, e3, w3⟩ := vcell_int Try.underlying22 k3
  obtain ⟨z36, e36, w36⟩ := vcell_int Try.underlying48 k36
  obtain ⟨z37, e37, w37⟩ := vcell_int Try.underlying22 k37
  obtain ⟨z38, e38, w38⟩ := vcell_int Try.underlying22 k38
  obtain ⟨z39, e39, w39⟩ := vcell_int Try.underlying3 k39
  obtain ⟨z40, e40, w40⟩ := vcell_int Try.underlying22 k40
  obtain ⟨n3, rfl, _⟩ := vu64_wf w3
  obtain ⟨n36, rfl⟩ := vu32_wf w36
  obtain ⟨n37, rfl, _⟩ := vu64_wf w37
  obtain ⟨n38, rfl, _⟩ := vu64_wf w38
  obtain ⟨n40, rfl, _⟩ := vu64_wf w40
  have mid : ∀ i (hi : i < 32), ∃ b : UInt8, cs[4 + i]'(by omega) = .int .u8 ((b.toNat : Nat) : Int) := by
    intro i hi
    obtain ⟨u, hu, hk⟩ := at_ (4 + i) (by omega)
    unfold chipTys at hu
    rw [List.getElem?_append_right (by simp), show 4 + i - ([4, 4, 4, 22] : List TypeId).length = i by simp, List.getElem?_append_left (by simpa using hi), List.getElem?_replicate, if_pos hi] at hu
    obtain rfl := Option.some.inj hu
    obtain ⟨n, en, wn⟩ := vcell_int Try.underlying5 hk
    refine ⟨UInt8.ofNat n.toNat, ?_⟩
    rw [en]
    simp only [Lit.wf, Bool.and_eq_true, IntKind.min, IntKind.max, IntKind.signed, IntKind.bits] at wn
    simp at wn
    congr 1
    simp only [UInt8.toNat_ofNat']
    omega
  obtain ⟨f, hf⟩ := Deep.choose_lt (α := UInt8) (n := 32) (p := fun i b => ∀ hi : i < 32, cs[4 + i]'(by omega) = .int .u8 ((b.toNat : Nat) : Int)) (fun i hi => by obtain ⟨b, hb⟩ := mid i hi; exact ⟨b, fun _ => hb⟩)
  refine ⟨⟨z0, z1, z2, n3, (List.range 32).map f, n36, n37, ⟨n38, z39, n40⟩⟩, ?_, ⟨by simp⟩⟩
  have hcl : (ccs n3 ((List.range 32).map f) n36).length = 34 := ccs_length (by simp)
  congr 1
  apply Array.ext_getElem?
  intro i
  have hr : (crow ⟨z0, z1, z2, n3, (List.range 32).map f, n36, n37, ⟨n38, z39, n40⟩⟩).toArray[i]? = (crow ⟨z0, z1, z2, n3, (List.range 32).map f, n36, n37, ⟨n38, z39, n40⟩⟩)[i]? := by simp
  rw [hr]
  rcases Nat.lt_or_ge i 41 with hi | hi
  · rw [Array.getElem?_eq_getElem (by omega)]
    have hcase : i = 0 ∨ i = 1 ∨ i = 2 ∨ i = 3 ∨ (∃ j, i = 4 + j ∧ j < 32) ∨ i = 36 ∨ i = 37 ∨ i = 38 ∨ i = 39 ∨ i = 40 := by
      by_cases h4 : i < 4
      · omega
      · by_cases h36 : i < 36
        · exact .inr (.inr (.inr (.inr (.inl ⟨i - 4, by omega, by omega⟩))))
        · omega
    rcases hcase with rfl | rfl | rfl | rfl | ⟨j, rfl, hj⟩ | rfl | rfl | rfl | rfl | rfl
    · rw [e0]; rfl
    · rw [e1]; rfl
    · rw [e2]; rfl
    · rw [e3]; rfl
    · rw [hf j hj hj]
      unfold crow
      rw [List.getElem?_append_right (by simp; omega), show 4 + j - ([Value.bool z0, Value.bool z1, Value.bool z2] : List Value).length = 1 + j by simp; omega, List.getElem?_append_left (by rw [hcl]; omega)]
      refine (ccs_mid ?_).symm
      rw [bv, List.map_map, List.getElem?_map, List.getElem?_range hj]
      rfl
    · rw [e36]
      unfold crow
      rw [List.getElem?_append_right (by simp), show 36 - ([Value.bool z0, Value.bool z1, Value.bool z2] : List Value).length = 33 from rfl, List.getElem?_append_left (by rw [hcl]; omega)]
      exact (ccs_last (by simp)).symm
    · rw [e37]; unfold crow; rw [List.getElem?_append_right (by simp), List.getElem?_append_right (by rw [hcl]; simp), hcl]; rfl
    · rw [e38]; unfold crow; rw [List.getElem?_append_right (by simp), List.getElem?_append_right (by rw [hcl]; simp), hcl]; rfl
    · rw [e39]; unfold crow; rw [List.getElem?_append_right (by simp), List.getElem?_append_right (by rw [hcl]; simp), hcl]; rfl
    · rw [e40]; unfold crow; rw [List.getElem?_append_right (by simp), List.getElem?_append_right (by rw [hcl]; simp), hcl]; rfl
  · rw [Array.getElem?_eq_none (by omega), List.getElem?_eq_none (by rw [crow_len ⟨by simp⟩]; exact hi)]
section
variable (t : VV) {a b c : EC} (ha : a.ok) (hb : b.ok)
include ha hb
theorem choose2_any (W : World) : Calls Try.prog 22 #[va t, .slice (some ⟨W.heap.size, 0, none⟩) 2 2] (W.alloc (.cells (crow a ++ crow b).toArray 52)) fun e w' => e = .returned (.tuple #[pv (choose t a b).1, .int .i64 (choose t a b).2]) ∧ Below W.heap.size W w' := by
  have hla := crow_len ha
  have hlb := crow_len hb
  have B := Blk.new W 52 (crow a ++ crow b)
  have b1 := (Below.refl W.heap.size W).alloc (Nat.le_refl _) (.cells (crow a ++ crow b).toArray 52)
  refine (choose_any t ha hb ⟨W.heap.size, 0, none⟩ 2 2 2 _ (crow a ++ crow b) rfl (by rw [List.length_append, hla, hlb]) (by rw [List.drop_eq_nil_of_le (by simp [hla, hlb, crow_len zero_ok]), List.append_nil]) (fun v hv => by rcases List.mem_append.1 hv with q | q; exact crow_one a v q; exact crow_one b v q) (by show W.heap.size < _; rw [World.size_alloc]; exact Nat.lt_succ_self _) (fun j v hj => by
    have hadd : (⟨W.heap.size, 0, none⟩ : Addr).add j = ⟨W.heap.size, j, none⟩ := by unfold Addr.add; split <;> simp_all
    rw [hadd, B.cell]; exact hj)).mono ?_
  rintro e w' ⟨rfl, h⟩
  exact ⟨rfl, b1.trans (h.mono b1.size)⟩
theorem choose3_any (hc : c.ok) (W : World) : Calls Try.prog 22 #[va t, .slice (some ⟨W.heap.size, 0, none⟩) 3 3] (W.alloc (.cells (crow a ++ crow b ++ crow c).toArray 52)) fun e w' => e = .returned (.tuple #[pv (choose t a b).1, .int .i64 (choose t a b).2]) ∧ Below W.heap.size W w' := by
  have hla := crow_len ha
  have hlb := crow_len hb
  have hlc := crow_len hc
  have B := Blk.new W 52 (crow a ++ crow b ++ crow c)
  have b1 := (Below.refl W.heap.size W).alloc (Nat.le_refl _) (.cells (crow a ++ crow b ++ crow c).toArray 52)
  refine (choose_any t ha hb ⟨W.heap.size, 0, none⟩ 3 3 2 _ (crow a ++ crow b) rfl (by rw [List.length_append, hla, hlb]) (by rw [List.drop_eq_nil_of_le (by simp [hla, hlb, crow_len zero_ok]), List.append_nil]) (fun v hv => by rcases List.mem_append.1 hv with q | q; exact crow_one a v q; exact crow_one b v q) (by show W.heap.size < _; rw [World.size_alloc]; exact Nat.lt_succ_self _) (fun j v hj => by
    have hadd : (⟨W.heap.size, 0, none⟩ : Addr).add j = ⟨W.heap.size, j, none⟩ := by unfold Addr.add; split <;> simp_all
    rw [hadd, B.cell, List.getElem?_append_left (get_lt hj)]; exact hj)).mono ?_
  rintro e w' ⟨rfl, h⟩
  exact ⟨rfl, b1.trans (h.mono b1.size)⟩
end
theorem choose1_any (t : VV) {a : EC} (ha : a.ok) (W : World) : Calls Try.prog 22 #[va t, .slice (some ⟨W.heap.size, 0, none⟩) 1 1] (W.alloc (.cells (crow a).toArray 52)) fun e w' => e = .returned (.tuple #[pv (choose t a EC.zero).1, .int .i64 (choose t a EC.zero).2]) ∧ Below W.heap.size W w' := by
  have hla := crow_len ha
  have B := Blk.new W 52 (crow a)
  have b1 := (Below.refl W.heap.size W).alloc (Nat.le_refl _) (.cells (crow a).toArray 52)
  refine (choose_any t ha zero_ok ⟨W.heap.size, 0, none⟩ 1 1 1 _ (crow a) rfl hla (by rw [hla, show (41 : Nat) = (crow EC.zero).length from (crow_len zero_ok).symm, List.drop_left]) (crow_one a) (by show W.heap.size < _; rw [World.size_alloc]; exact Nat.lt_succ_self _) (fun j v hj => by
    have hadd : (⟨W.heap.size, 0, none⟩ : Addr).add j = ⟨W.heap.size, j, none⟩ := by unfold Addr.add; split <;> simp_all
    rw [hadd, B.cell]; exact hj)).mono ?_
  rintro e w' ⟨rfl, h⟩
  exact ⟨rfl, b1.trans (h.mono b1.size)⟩
/-- a chip that holds a store of an epoch -/
def chipE (e : Nat) : EC := ⟨true, true, true, e, List.replicate 32 0, 0, e, VV.zero⟩
theorem chipE_ok (e : Nat) : (chipE e).ok := ⟨by simp [chipE]⟩
theorem bcom (e : Nat) (w : World) : (Instr.build 50 #[(0, .int .u64 (e : Int))]).run Try.prog w = .ok (.agg (ccs e (List.replicate 32 0) 0).toArray) w := by kernel_rfl
theorem bchip (e : Nat) (w : World) : (Instr.build 52 #[(0, .bool true), (1, .bool true), (2, .bool true), (3, .agg (ccs e (List.replicate 32 0) 0).toArray), (4, .int .u64 (e : Int))]).run Try.prog w = .ok (.agg (crow (chipE e)).toArray) w := by kernel_rfl
theorem wpl_bcom {w : World} {ops : Array Oper} {rest : List Oper} {o : Oper} {a : Act} {Q : Exit → Act → World → Prop} (e : Nat) (xc : List Value) (hxc : ccs e (List.replicate 32 0) 0 = xc) (x : Operand) (ho : o.op = .build 50 #[(0, x)]) (hgd : Region.wanted o (yielded ops a.tmps) = true) (hx : a.eval x = .int .u64 (e : Int))
    (h : wpList Try.prog ops Q rest (a.put o.dst (.agg xc.toArray)) w) : wpList Try.prog ops Q (o :: rest) a w := by
  refine BigFrame.wpList_want hgd fun K hK => ?_
  unfold Oper.wp execOp
  have q : (#[(0, x)] : Array (Nat × Operand)).map (fun (i, y) => (i, a.eval y)) = #[(0, .int .u64 (e : Int))] := by simp [hx]
  simp only [ho, q, Sem.run_bind, bcom e w, hxc, Result.andThen_ok]
  exact hK _ _ h
theorem wpl_bchip {w : World} {ops : Array Oper} {rest : List Oper} {o : Oper} {a : Act} {Q : Exit → Act → World → Prop} (e : Nat) (xc rc : List Value) (hxc : ccs e (List.replicate 32 0) 0 = xc) (hrc : crow (chipE e) = rc) (x y : Operand) (ho : o.op = .build 52 #[(0, .const (.bool true)), (1, .const (.bool true)), (2, .const (.bool true)), (3, x), (4, y)]) (hgd : Region.wanted o (yielded ops a.tmps) = true) (hx : a.eval x = .agg xc.toArray) (hy : a.eval y = .int .u64 (e : Int))
    (h : wpList Try.prog ops Q rest (a.put o.dst (.agg rc.toArray)) w) : wpList Try.prog ops Q (o :: rest) a w := by
  refine BigFrame.wpList_want hgd fun K hK => ?_
  unfold Oper.wp execOp
  have q : (#[(0, .const (.bool true)), (1, .const (.bool true)), (2, .const (.bool true)), (3, x), (4, y)] : Array (Nat × Operand)).map (fun (i, y) => (i, a.eval y)) = #[(0, .bool true), (1, .bool true), (2, .bool true), (3, .agg (ccs e (List.replicate 32 0) 0).toArray), (4, .int .u64 (e : Int))] := by
    have hc : ∀ v, a.eval (.const v) = v := fun _ => rfl
    simp only [List.map_toArray, List.map_cons, List.map_nil, hx, hy, hc, hxc]
  simp only [ho, q, Sem.run_bind, bchip e w, hrc, Result.andThen_ok]
  exact hK _ _ h
set_option maxRecDepth 100000 in
set_option maxHeartbeats 400000 in
theorem chip_any (e : Nat) (w : World) : Calls Try.prog 28 #[.int .u64 (e : Int)] w fun x w' => x = .returned (.agg (crow (chipE e)).toArray) ∧ Below w.heap.size w w' := by
  have zc := zeroChip
  have hl := Lib.hid (crow_len (chipE_ok e))
  have hone := Lib.hid (crow_one (chipE e))
  obtain ⟨rc, hrc⟩ : ∃ rc, crow (chipE e) = rc := ⟨_, rfl⟩
  obtain ⟨xc, hxc⟩ : ∃ xc, ccs e (List.replicate 32 0) 0 = xc := ⟨_, rfl⟩
  obtain ⟨zr, hzr⟩ : ∃ zr, crow EC.zero = zr := ⟨_, rfl⟩
  have hzl := Lib.hid (show zr.length = 41 by rw [← hzr]; exact crow_len zero_ok)
  rw [hrc] at hl hone ⊢
  rw [hzr] at zc
  have HRC := Lib.hid hrc
  have HXC := Lib.hid hxc
  have N1 := Lib.hid (Blk.new w 52 zr)
  have b1 := Lib.hid ((Below.refl w.heap.size w).alloc (Nat.le_refl _) (.cells zr.toArray 52))
  have HSA := Lib.hid (csegSet (hzl.out.trans hl.out.symm))
  clear hrc hxc hzr
  go_enter Try.func28, Try.ntmps28
  go_wp2_with (first | (with_reducible refine wpl_bcom e xc HXC.out (.tmp 3) rfl rfl rfl ?_) | (with_reducible refine wpl_bchip e xc rc HXC.out HRC.out (.tmp 4) (.tmp 5) rfl rfl rfl rfl ?_) | ((with_reducible refine wpl_seg_store sizeC (.tmp 2) (.tmp 6) rfl rfl N1.out 0 rc hl.out (by rw [hzl.out]; exact Nat.le_refl _) hone.out rfl rfl _ HSA.out ?_); intro w5 R5 g5 e5; have C5 := Lib.hid R5; have t5 := Lib.hid (b1.out.grown g5 b1.out.size (fun q e => by cases e; exact Nat.le_refl _)); clear R5 e5 g5))
  refine bodyPost_ret (sret1 aggC sizeC rfl _ C5.out (all41 hl.out) hl.out rfl) rfl ?_
  exact ⟨rfl, t5.out⟩
set_option maxRecDepth 100000 in
theorem espeaks_any (w : World) : Calls Try.prog 21 #[] w fun e w' => e = .returned (.bool true) ∧ Below w.heap.size w w' := by
  have K7 : Hid (∀ w, Calls Try.prog 28 #[.int .u64 7] w fun x w' => x = .returned (.agg (crow (chipE 7)).toArray) ∧ Below w.heap.size w w') := Lib.hid (fun w => chip_any 7 w)
  have K6 : Hid (∀ w, Calls Try.prog 28 #[.int .u64 6] w fun x w' => x = .returned (.agg (crow (chipE 6)).toArray) ∧ Below w.heap.size w w') := Lib.hid (fun w => chip_any 6 w)
  have HLA := Lib.hid (crow_len (chipE_ok 7))
  have HLB := Lib.hid (crow_len (chipE_ok 6))
  have KC : Hid (∀ W : World, Calls Try.prog 22 #[.agg #[.int .u64 1, .int .i64 3, .int .u64 0], .slice (some ⟨W.heap.size, 0, none⟩) 2 2] (W.alloc (.cells (crow (chipE 7) ++ crow (chipE 6)).toArray 52)) fun e w' => e = .returned (.tuple #[.agg #[.int .i64 0, .int .i64 1, .bool true], .int .i64 0]) ∧ Below W.heap.size W w') := Lib.hid (fun W => by
    have h := choose2_any ⟨1, 3, 0⟩ (chipE_ok 7) (chipE_ok 6) W
    rw [show choose ⟨1, 3, 0⟩ (chipE 7) (chipE 6) = (⟨0, 1, true⟩, 0) by decide] at h
    exact h)
  obtain ⟨ra, hra⟩ : ∃ ra, crow (chipE 7) = ra := ⟨_, rfl⟩
  obtain ⟨rb, hrb⟩ : ∃ rb, crow (chipE 6) = rb := ⟨_, rfl⟩
  rw [hra] at K7 HLA KC
  rw [hrb] at K6 HLB KC
  clear hra hrb
  go_enter Try.func21, Try.ntmps21
  go_wp2_with fail
  ((with_reducible refine (K7.out _).mono ?_); rintro e w1 ⟨rfl, h1⟩)
  have T1 := Lib.hid h1
  clear h1
  go_wp2_with fail
  ((with_reducible refine (K6.out _).mono ?_); rintro e w2 ⟨rfl, h2⟩)
  have T2 := Lib.hid (T1.out.trans (h2.mono T1.out.size))
  clear h2
  go_wp2_with (with_reducible refine wpl_slice2 (.tmp 5) (.tmp 6) rfl rfl rfl rfl HLA.out HLB.out ?_)
  ((with_reducible refine (KC.out w2).mono ?_); rintro e w3 ⟨rfl, h3⟩)
  have T3 := Lib.hid (T2.out.trans (h3.mono T2.out.size))
  clear h3
  go_wp2
  go_ret
  exact ⟨rfl, T3.out.alloc T3.out.size _⟩
end Go.Proofs.Yticigjkaangkmaa

