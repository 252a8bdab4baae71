/- Layer 13: Choose. Condition: the chips that are handed in are there, at least one; a set has 32 bytes. -/
import Derived.Test.YticigjkaangkmaaQElectD
namespace Go.Proofs.Yticigjkaangkmaa
open Go Go.RowKit
section
variable {w w' : World} {g n : Nat} {t : TypeId} {x0 x1 x2 y0 y1 y2 : Value}
theorem wpl_plload {ops : Array Oper} {rest : List Oper} {o : Oper} {a : Act} {Q : Exit → Act → World → Prop} (x : Operand) (ho : o.op = .load 54 x) (hgd : Region.wanted o (yielded ops a.tmps) = true) (hB : Blk w g t [x0, x1, x2]) (hx : a.eval x = .pointer (some ⟨g, 0, none⟩))
    (h : wpList Try.prog ops Q rest (a.put o.dst (.agg #[x0, x1, x2])) w) : wpList Try.prog ops Q (o :: rest) a w :=
  wpl_seg_load aggPl sizePl x ho hgd hB 0 [x0, x1, x2] rfl rfl hx h
theorem wpl_plstore {ops : Array Oper} {rest : List Oper} {o : Oper} {a : Act} {Q : Exit → Act → World → Prop} (x y : Operand) (ho : o.op = .store 54 x y) (hgd : Region.wanted o (yielded ops a.tmps) = true) (hB : Blk w g t [x0, x1, x2]) (h0 : y0.oneCell' = true) (h1 : y1.oneCell' = true) (h2 : y2.oneCell' = true) (hx : a.eval x = .pointer (some ⟨g, 0, none⟩)) (hy : a.eval y = .agg #[y0, y1, y2])
    (h : ∀ w', Blk w' g t [y0, y1, y2] → w.grownBy w' (some g) → w'.heap.size = w.heap.size → wpList Try.prog ops Q rest (a.put o.dst undef) w') : wpList Try.prog ops Q (o :: rest) a w :=
  wpl_seg_store sizePl x y ho hgd hB 0 [y0, y1, y2] rfl (by simp) (by intro v hv; simp at hv; rcases hv with rfl | rfl | rfl <;> assumption) hx hy [y0, y1, y2] rfl h
theorem plret2 {fn : Func} {p u : Tmp} (h : fn.results = #[.cell p 54, .tmp u]) (tmps : Array Value) (hB : Blk w g t [x0, x1, x2]) (hp : tmps.getD p undef = .pointer (some ⟨g, 0, none⟩)) :
    (results fn tmps).run Try.prog w = .ok (.tuple #[.agg #[x0, x1, x2], tmps.getD u undef]) w := sret2 (vs := [x0, x1, x2]) aggPl sizePl h tmps hB rfl rfl hp
end
theorem zeroPr : ∀ w, (zeroValue 68).run Try.prog w = .ok (.agg (crow EC.zero ++ crow EC.zero).toArray) w := fun _ => by kernel_rfl
theorem able_two (t : VV) (a b : EC) : able t a b 2 = (if EC.may t a 0 = true then [0] else []) ++ (if EC.may t b 1 = true then [1] else []) := by simp [able]
theorem aggCm : ∀ w, (isAgg 50).run Try.prog w = .ok true w := fun _ => by kernel_rfl
theorem sizeCm : ∀ w, (sizeOf 50).run Try.prog w = .ok 34 w := fun _ => by kernel_rfl
theorem choose_none (t : VV) (a b : EC) (h : t.right = false ∨ (a.holds = false ∧ b.holds = false)) : choose t a b = (PL.zero, 51) := by
  unfold choose
  simp only
  rw [if_pos h]
theorem choose_stale (t : VV) (a b : EC) (h : ¬ (t.right = false ∨ (a.holds = false ∧ b.holds = false))) (hx : EC.may t a 0 = false) (hy : EC.may t b 1 = false) : choose t a b = (PL.zero, if EC.hurt t a 0 = true ∨ EC.hurt t b 1 = true then 21 else 50) := by
  unfold choose
  simp only
  rw [if_neg h, if_pos ⟨hx, hy⟩]
theorem choose_some (t : VV) (a b : EC) (h : ¬ (t.right = false ∨ (a.holds = false ∧ b.holds = false))) (hxy : ¬ (EC.may t a 0 = false ∧ EC.may t b 1 = false)) (c m : Int) (hc : pickC (EC.may t a 0) (EC.may t b 1) a b = c) (hm : (if EC.may t a 0 = true ∧ EC.may t b 1 = true ∧ EC.last a b = true then (3 : Int) else c + 1) = m) : choose t a b = (⟨c, m, m != t.m⟩, 0) := by
  unfold choose
  simp only
  rw [if_neg h, if_neg hxy, hc, hm]
  rw [show (!decide (m = t.m)) = (m != t.m) by by_cases e : m = t.m <;> simp [e]]
set_option maxRecDepth 100000 in
set_option maxHeartbeats 8000000 in
theorem choose_any (t : VV) {a b : EC} (ha : a.ok) (hb : b.ok) (p : Addr) (n c k : Nat) (w : World) (srow : List Value) (hk : Nat.min n 2 = k) (hl : srow.length = k * 41) (hp : srow ++ (crow EC.zero ++ crow EC.zero).drop srow.length = crow a ++ crow b) (h1 : ∀ v ∈ srow, v.oneCell' = true) (hpb : p.block < w.heap.size)
    (hsrc : ∀ j v, srow[j]? = some v → w.cell? (p.add j) = some v) :
    Calls Try.prog 22 #[va t, .slice (some p) n c] w fun e w' => e = .returned (.tuple #[pv (choose t a b).1, .int .i64 (choose t a b).2]) ∧ Below w.heap.size w w' := by
  have hla := crow_len ha
  have hlb := crow_len hb
  have KR := Lib.hid (fun w => eright_any t w)
  have KHa := Lib.hid (fun w => holds_any13 a w)
  have KHb := Lib.hid (fun w => holds_any13 b w)
  have KE := Lib.hid (fun w => electable_any t ha hb w)
  have KW := Lib.hid (fun w => whyNone_any t ha hb w)
  have KN1 := Lib.hid (fun x A c w B hB hr => newest_one (a := a) (b := b) x A c w B hB hr)
  have KN2 := Lib.hid (fun A c hc w B hB hr => newest_two (b := b) ha A c hc w B hB hr)
  have HC1 := Lib.hid (choose_none t a b)
  have HC2 := Lib.hid (choose_stale t a b)
  have HC3 := Lib.hid (choose_some t a b)
  have hEq : ∀ w, (Op.equalIn 10000 50 (.agg (ccs a.e a.L a.u).toArray) (.agg (ccs b.e b.L b.u).toArray)).run Try.prog w = .ok (EC.last a b) w := fun w => commit_eq ha.L hb.L w
  have sa : ((crow a ++ crow b).drop 0).take 41 = crow a := by rw [List.drop_zero, List.take_append_of_le_length (by omega), List.take_of_length_le (by omega)]
  have sb : ((crow a ++ crow b).drop 41).take 41 = crow b := by rw [show (41 : Nat) = (crow a).length from hla.symm, List.drop_left, List.take_of_length_le (by omega)]
  have ca : ((crow a ++ crow b).drop 3).take 34 = ccs a.e a.L a.u := by rw [List.drop_append_of_le_length (by omega), List.take_append_of_le_length (by rw [List.length_drop]; omega)]; exact crow_seg ha
  have cb' : ((crow a ++ crow b).drop 44).take 34 = ccs b.e b.L b.u := by rw [show (44 : Nat) = (crow a).length + 3 by omega, ← List.drop_drop, List.drop_left]; exact crow_seg hb
  have HCL := Lib.hid (And.intro (ccs_length (e := a.e) (s := a.u) ha.L) (ccs_length (e := b.e) (s := b.u) hb.L))
  obtain ⟨rp, hrp⟩ : ∃ rp, crow a ++ crow b = rp := ⟨_, rfl⟩
  have hlp := Lib.hid (show rp.length = 82 by rw [← hrp, List.length_append, hla, hlb])
  rw [hrp] at KE KW KN1 KN2 sa sb ca cb' hp
  obtain ⟨ra, hra⟩ : ∃ ra, crow a = ra := ⟨_, rfl⟩
  obtain ⟨rb, hrb⟩ : ∃ rb, crow b = rb := ⟨_, rfl⟩
  rw [hra] at KHa sa hla
  rw [hrb] at KHb sb hlb
  obtain ⟨xa, hxa⟩ : ∃ xa, ccs a.e a.L a.u = xa := ⟨_, rfl⟩
  obtain ⟨xb, hxb⟩ : ∃ xb, ccs b.e b.L b.u = xb := ⟨_, rfl⟩
  rw [hxa, hxb] at hEq HCL
  rw [hxa] at ca
  rw [hxb] at cb'
  have zc := zeroPr
  obtain ⟨zz, hzz⟩ : ∃ zz, crow EC.zero ++ crow EC.zero = zz := ⟨_, rfl⟩
  have hzl := Lib.hid (show zz.length = 82 by rw [← hzz, List.length_append, crow_len zero_ok])
  rw [hzz] at zc hp
  obtain ⟨lq, hlq⟩ : ∃ lq, EC.last a b = lq := ⟨_, rfl⟩
  rw [hlq] at hEq
  have HSA := Lib.hid sa
  have HSB := Lib.hid sb
  have HCA := Lib.hid ca
  have HCB := Lib.hid cb'
  have HLA := Lib.hid hla
  have HLB := Lib.hid hlb
  have HP := Lib.hid hp
  have HK := Lib.hid hk
  have HL := Lib.hid hl
  have HO := Lib.hid h1
  have HLQ := Lib.hid hlq
  have hk2 := Lib.hid (show k ≤ 2 by rw [← hk]; exact Nat.min_le_right _ _)
  -- the world in which the chips are copied
  obtain ⟨W1, hW1⟩ : ∃ W1, W1 = w.alloc (.cells #[.int .u64 (t.n : Int), .int .i64 t.m, .int .u64 (t.b : Int)] 24) := ⟨_, rfl⟩
  have V1 : Blk W1 w.heap.size 24 [.int .u64 (t.n : Int), .int .i64 t.m, .int .u64 (t.b : Int)] := by rw [hW1]; exact Blk.new w _ [.int .u64 (t.n : Int), .int .i64 t.m, .int .u64 (t.b : Int)]
  have s1 : W1.heap.size = w.heap.size + 1 := by rw [hW1, World.size_alloc]
  have b1 : Below w.heap.size w W1 := by rw [hW1]; exact (Below.refl w.heap.size w).alloc (Nat.le_refl _) _
  obtain ⟨W2, hW2⟩ : ∃ W2, W2 = W1.alloc (.cells #[.int .i64 0, .int .i64 0, .bool false] 54) := ⟨_, rfl⟩
  have L2 : Blk W2 (w.heap.size + 1) 54 [.int .i64 0, .int .i64 0, .bool false] := by rw [hW2, ← s1]; exact Blk.new W1 _ [.int .i64 0, .int .i64 0, .bool false]
  have V2 : Blk W2 w.heap.size 24 [.int .u64 (t.n : Int), .int .i64 t.m, .int .u64 (t.b : Int)] := by rw [hW2]; exact V1.alloc _
  have s2 : W2.heap.size = w.heap.size + 1 + 1 := by rw [hW2, World.size_alloc, s1]
  have b2 : Below w.heap.size w W2 := by rw [hW2]; exact b1.alloc b1.size _
  obtain ⟨W3, hW3⟩ : ∃ W3, W3 = W2.alloc (.cells zz.toArray 68) := ⟨_, rfl⟩
  have Q3 : Hid (Blk W3 (w.heap.size + 1 + 1) 68 zz) := Lib.hid (by rw [hW3, ← s2]; exact Blk.new W2 _ zz)
  have V3 : Hid (Blk W3 w.heap.size 24 [.int .u64 (t.n : Int), .int .i64 t.m, .int .u64 (t.b : Int)]) := Lib.hid (by rw [hW3]; exact V2.alloc _)
  have L3 : Hid (Blk W3 (w.heap.size + 1) 54 [.int .i64 0, .int .i64 0, .bool false]) := Lib.hid (by rw [hW3]; exact L2.alloc _)
  have b3 : Hid (Below w.heap.size w W3) := Lib.hid (by rw [hW3]; exact b2.alloc b2.size _)
  have HSRC := Lib.hid (show ∀ j v, srow[j]? = some v → W3.cell? (p.add j) = some v from fun j v hj => (b3.out.cell (p := p.add j) (by rw [add_block]; exact hpb)).trans (hsrc j v hj))
  have HW3 := Lib.hid (show W3 = ((w.alloc (.cells #[.int .u64 (t.n : Int), .int .i64 t.m, .int .u64 (t.b : Int)] 24)).alloc (.cells #[.int .i64 0, .int .i64 0, .bool false] 54)).alloc (.cells zz.toArray 68) by rw [hW3, hW2, hW1])
  clear hW1 V1 s1 b1 hW2 L2 V2 s2 b2 hW3 hrp hra hrb hxa hxb hzz sa sb ca cb' hla hlb hp hk hl h1 hlq hsrc hpb
  obtain ⟨rq, hrq⟩ : ∃ rq, t.right = rq := ⟨_, rfl⟩
  obtain ⟨pa, hpa⟩ : ∃ pa, a.holds = pa := ⟨_, rfl⟩
  obtain ⟨pb, hpb⟩ : ∃ pb, b.holds = pb := ⟨_, rfl⟩
  rw [hrq] at KR
  rw [hpa] at KHa
  rw [hpb] at KHb
  rw [hrq, hpa, hpb] at HC1 HC2 HC3
  clear hrq hpa hpb
  obtain rfl := HW3.out
  clear HW3
  go_enter Try.func22, Try.ntmps22
  go_wp2_with (first
    | ((with_reducible refine wpl_ccopy rfl (.tmp 10) (.tmp 11) rfl Q3.out p n c k rfl rfl HK.out HL.out hzl.out hk2.out HSRC.out HO.out HP.out ?_); intro w5 R5 g5 e5; have Q5 := Lib.hid R5; have V5 := Lib.hid (V3.out.grown g5 (by simp; omega)); have L5 := Lib.hid (L3.out.grown g5 (by simp)); have t5 := Lib.hid (b3.out.grown g5 b3.out.size (fun q e => by cases e; omega)); clear R5 g5 e5 Q3 V3 L3 b3 HSRC)
    | (with_reducible refine wpl_vload (.tmp 2) rfl rfl V5.out rfl ?_))
  ((with_reducible refine (KR.out _).mono ?_); rintro e w6 ⟨rfl, h6⟩)
  have V6 := Lib.hid (V5.out.after h6)
  have L6 := Lib.hid (L5.out.after h6)
  have Q6 := Lib.hid (Q5.out.after h6)
  have t6 := Lib.hid (t5.out.trans (h6.mono t5.out.size))
  clear h6 V5 L5 Q5 t5
  cases rq
  · skip
    go_wp2_with ((with_reducible refine wpl_plstore (.tmp 4) (.tmp 28) rfl rfl L6.out rfl rfl rfl rfl rfl ?_); intro w9 R9 g9 e9; have T9 := Lib.hid (t6.out.grown g9 t6.out.size (fun k e => by cases e; omega)); have S9 := Lib.hid R9; clear R9 g9 e9)
    refine bodyPost_ret (plret2 rfl _ S9.out rfl) rfl ?_
    rw [HC1.out (Or.inl (by simp))]
    exact ⟨rfl, T9.out⟩
  go_wp2_with (with_reducible refine wpl_cload (.tmp 17) rfl rfl Q6.out 0 HSA.out HLA.out rfl ?_)
  ((with_reducible refine (KHa.out _).mono ?_); rintro e w7 ⟨rfl, h7⟩)
  have V7 := Lib.hid (V6.out.after h7)
  have L7 := Lib.hid (L6.out.after h7)
  have Q7 := Lib.hid (Q6.out.after h7)
  have t7 := Lib.hid (t6.out.trans (h7.mono t6.out.size))
  clear h7 V6 L6 Q6 t6
  cases pa
  · skip
    go_wp2_with (with_reducible refine wpl_cload (.tmp 22) rfl rfl Q7.out 41 HSB.out HLB.out rfl ?_)
    ((with_reducible refine (KHb.out _).mono ?_); rintro e w8 ⟨rfl, h8⟩)
    have V8 := Lib.hid (V7.out.after h8)
    have L8 := Lib.hid (L7.out.after h8)
    have Q8 := Lib.hid (Q7.out.after h8)
    have t8 := Lib.hid (t7.out.trans (h8.mono t7.out.size))
    clear h8 V7 L7 Q7 t7
    cases pb
    · skip
      go_wp2_with (first | ((with_reducible refine wpl_plstore (.tmp 4) (.tmp 28) rfl rfl L8.out rfl rfl rfl rfl rfl ?_); intro w9 R9 g9 e9; have T9 := Lib.hid (t8.out.grown g9 t8.out.size (fun k e => by cases e; omega)); have S9 := Lib.hid R9; clear R9 g9 e9))
      refine bodyPost_ret (plret2 rfl _ S9.out rfl) rfl ?_
      rw [HC1.out (Or.inr ⟨by simp, by simp⟩)]
      exact ⟨rfl, T9.out⟩
    · skip
      cases hx : EC.may t a 0
      · cases hy : EC.may t b 1
        · skip
          have KE1 : Hid (∀ w, Calls Try.prog 31 #[va t, .agg rp.toArray] w fun e w' => ∃ A c, e = .returned (.slice A 0 c) ∧ 0 ≤ c ∧ Row w' w'.heap.size A (eiv []) ∧ Below w.heap.size w w') := Lib.hid (fun w => by
            have h := KE.out w
            rw [show able t a b 2 = [] by rw [able_two, hx, hy]; rfl] at h
            exact h)
          have HF := Lib.hid (HC2.out (by simp) hx hy)
          obtain ⟨z, hz⟩ : ∃ z : Int, (if EC.hurt t a 0 = true ∨ EC.hurt t b 1 = true then 21 else 50) = z := ⟨_, rfl⟩
          rw [hz] at KW HF
          clear hz
          go_wp2_with (first | (with_reducible refine wpl_vload (.tmp 2) rfl rfl V8.out rfl ?_) | (with_reducible refine wpl_seg_load aggPr sizePr (.tmp 6) rfl rfl Q8.out 0 rp (by rw [List.drop_zero, List.take_of_length_le (Nat.le_of_eq hlp.out)]) hlp.out rfl ?_))
          ((with_reducible refine (KE1.out _).mono ?_); rintro e w9 ⟨A, ce, rfl, hcap, hrow, h9⟩)
          have V9 := Lib.hid (V8.out.after h9)
          have L9 := Lib.hid (L8.out.after h9)
          have Q9 := Lib.hid (Q8.out.after h9)
          have t9 := Lib.hid (t8.out.trans (h9.mono t8.out.size))
          clear h9 V8 L8 Q8 t8
          go_wp2_with (first | (with_reducible refine wpl_vload (.tmp 2) rfl rfl V9.out rfl ?_) | (with_reducible refine wpl_seg_load aggPr sizePr (.tmp 6) rfl rfl Q9.out 0 rp (by rw [List.drop_zero, List.take_of_length_le (Nat.le_of_eq hlp.out)]) hlp.out rfl ?_))
          ((with_reducible refine (KW.out _).mono ?_); rintro e w10 ⟨rfl, h10⟩)
          have V10 := Lib.hid (V9.out.after h10)
          have L10 := Lib.hid (L9.out.after h10)
          have Q10 := Lib.hid (Q9.out.after h10)
          have t10 := Lib.hid (t9.out.trans (h10.mono t9.out.size))
          clear h10 V9 L9 Q9 t9
          go_wp2_with (first | ((with_reducible refine wpl_plstore (.tmp 4) (.tmp 35) rfl rfl L10.out rfl rfl rfl rfl rfl ?_); intro w9 R9 g9 e9; have T9 := Lib.hid (t10.out.grown g9 t10.out.size (fun k e => by cases e; omega)); have S9 := Lib.hid R9; clear R9 g9 e9))
          refine bodyPost_ret (plret2 rfl _ S9.out rfl) rfl ?_
          rw [HF.out]
          exact ⟨rfl, T9.out⟩
        · skip
          have KE1 : Hid (∀ w, Calls Try.prog 31 #[va t, .agg rp.toArray] w fun e w' => ∃ A c, e = .returned (.slice A 1 c) ∧ 1 ≤ c ∧ Row w' w'.heap.size A (eiv [1]) ∧ Below w.heap.size w w') := Lib.hid (fun w => by
            have h := KE.out w
            rw [show able t a b 2 = [1] by rw [able_two, hx, hy]; rfl] at h
            exact h)
          go_wp2_with (first | (with_reducible refine wpl_vload (.tmp 2) rfl rfl V8.out rfl ?_) | (with_reducible refine wpl_seg_load aggPr sizePr (.tmp 6) rfl rfl Q8.out 0 rp (by rw [List.drop_zero, List.take_of_length_le (Nat.le_of_eq hlp.out)]) hlp.out rfl ?_))
          ((with_reducible refine (KE1.out _).mono ?_); rintro e w9 ⟨A, ce, rfl, hcap, hrow, h9⟩)
          have KN := Lib.hid (KN1.out 1 A ce w9 w9.heap.size (Nat.le_refl _) hrow)
          have V9 := Lib.hid (V8.out.after h9)
          have L9 := Lib.hid (L8.out.after h9)
          have Q9 := Lib.hid (Q8.out.after h9)
          have t9 := Lib.hid (t8.out.trans (h9.mono t8.out.size))
          clear h9 V8 L8 Q8 t8
          clear hrow
          go_wp2_with (with_reducible refine wpl_seg_load aggPr sizePr (.tmp 6) rfl rfl Q9.out 0 rp (by rw [List.drop_zero, List.take_of_length_le (Nat.le_of_eq hlp.out)]) hlp.out rfl ?_)
          ((with_reducible refine (KN.out).mono ?_); rintro e w10 ⟨rfl, h10⟩)
          have V10 := Lib.hid (V9.out.after h10)
          have L10 := Lib.hid (L9.out.after h10)
          have Q10 := Lib.hid (Q9.out.after h10)
          have t10 := Lib.hid (t9.out.trans (h10.mono t9.out.size))
          clear h10 V9 L9 Q9 t9
          have x1 := V10.out.cell 1
          simp only [List.getElem?_cons_zero, List.getElem?_cons_succ] at x1
          have HF := Lib.hid (HC3.out (by simp) (by rw [hx, hy]; simp) 1 2 (by rw [hx, hy]; simp [pickC]) (by rw [hx, hy]; simp))
          go_wp2_with (first | ((with_reducible refine wpl_plstore (.tmp 4) (.tmp 62) rfl rfl L10.out rfl rfl rfl rfl rfl ?_); intro w9 R9 g9 e9; have T9 := Lib.hid (t10.out.grown g9 t10.out.size (fun k e => by cases e; omega)); have S9 := Lib.hid R9; clear R9 g9 e9))
          refine bodyPost_ret (plret2 rfl _ S9.out rfl) rfl ?_
          rw [HF.out]
          exact ⟨rfl, T9.out⟩
      · cases hy : EC.may t b 1
        · skip
          have KE1 : Hid (∀ w, Calls Try.prog 31 #[va t, .agg rp.toArray] w fun e w' => ∃ A c, e = .returned (.slice A 1 c) ∧ 1 ≤ c ∧ Row w' w'.heap.size A (eiv [0]) ∧ Below w.heap.size w w') := Lib.hid (fun w => by
            have h := KE.out w
            rw [show able t a b 2 = [0] by rw [able_two, hx, hy]; rfl] at h
            exact h)
          go_wp2_with (first | (with_reducible refine wpl_vload (.tmp 2) rfl rfl V8.out rfl ?_) | (with_reducible refine wpl_seg_load aggPr sizePr (.tmp 6) rfl rfl Q8.out 0 rp (by rw [List.drop_zero, List.take_of_length_le (Nat.le_of_eq hlp.out)]) hlp.out rfl ?_))
          ((with_reducible refine (KE1.out _).mono ?_); rintro e w9 ⟨A, ce, rfl, hcap, hrow, h9⟩)
          have KN := Lib.hid (KN1.out 0 A ce w9 w9.heap.size (Nat.le_refl _) hrow)
          have V9 := Lib.hid (V8.out.after h9)
          have L9 := Lib.hid (L8.out.after h9)
          have Q9 := Lib.hid (Q8.out.after h9)
          have t9 := Lib.hid (t8.out.trans (h9.mono t8.out.size))
          clear h9 V8 L8 Q8 t8
          clear hrow
          go_wp2_with (with_reducible refine wpl_seg_load aggPr sizePr (.tmp 6) rfl rfl Q9.out 0 rp (by rw [List.drop_zero, List.take_of_length_le (Nat.le_of_eq hlp.out)]) hlp.out rfl ?_)
          ((with_reducible refine (KN.out).mono ?_); rintro e w10 ⟨rfl, h10⟩)
          have V10 := Lib.hid (V9.out.after h10)
          have L10 := Lib.hid (L9.out.after h10)
          have Q10 := Lib.hid (Q9.out.after h10)
          have t10 := Lib.hid (t9.out.trans (h10.mono t9.out.size))
          clear h10 V9 L9 Q9 t9
          have x1 := V10.out.cell 1
          simp only [List.getElem?_cons_zero, List.getElem?_cons_succ] at x1
          have HF := Lib.hid (HC3.out (by simp) (by rw [hx, hy]; simp) 0 1 (by rw [hx, hy]; simp [pickC]) (by rw [hx, hy]; simp))
          go_wp2_with (first | ((with_reducible refine wpl_plstore (.tmp 4) (.tmp 62) rfl rfl L10.out rfl rfl rfl rfl rfl ?_); intro w9 R9 g9 e9; have T9 := Lib.hid (t10.out.grown g9 t10.out.size (fun k e => by cases e; omega)); have S9 := Lib.hid R9; clear R9 g9 e9))
          refine bodyPost_ret (plret2 rfl _ S9.out rfl) rfl ?_
          rw [HF.out]
          exact ⟨rfl, T9.out⟩
        · skip
          have KE1 : Hid (∀ w, Calls Try.prog 31 #[va t, .agg rp.toArray] w fun e w' => ∃ A c, e = .returned (.slice A 2 c) ∧ 2 ≤ c ∧ Row w' w'.heap.size A (eiv [0, 1]) ∧ Below w.heap.size w w') := Lib.hid (fun w => by
            have h := KE.out w
            rw [show able t a b 2 = [0, 1] by rw [able_two, hx, hy]; rfl] at h
            exact h)
          go_wp2_with (first | (with_reducible refine wpl_vload (.tmp 2) rfl rfl V8.out rfl ?_) | (with_reducible refine wpl_seg_load aggPr sizePr (.tmp 6) rfl rfl Q8.out 0 rp (by rw [List.drop_zero, List.take_of_length_le (Nat.le_of_eq hlp.out)]) hlp.out rfl ?_))
          ((with_reducible refine (KE1.out _).mono ?_); rintro e w9 ⟨A, ce, rfl, hcap, hrow, h9⟩)
          have KN := Lib.hid (KN2.out A ce hcap w9 w9.heap.size (Nat.le_refl _) hrow)
          have V9 := Lib.hid (V8.out.after h9)
          have L9 := Lib.hid (L8.out.after h9)
          have Q9 := Lib.hid (Q8.out.after h9)
          have t9 := Lib.hid (t8.out.trans (h9.mono t8.out.size))
          clear h9 V8 L8 Q8 t8
          clear hrow
          by_cases hz : a.e < b.e
          · rw [if_pos hz] at KN
            have HZ := Lib.hid hz
            clear hz
            go_wp2_with (with_reducible refine wpl_seg_load aggPr sizePr (.tmp 6) rfl rfl Q9.out 0 rp (by rw [List.drop_zero, List.take_of_length_le (Nat.le_of_eq hlp.out)]) hlp.out rfl ?_)
            ((with_reducible refine (KN.out).mono ?_); rintro e w10 ⟨rfl, h10⟩)
            have V10 := Lib.hid (V9.out.after h10)
            have L10 := Lib.hid (L9.out.after h10)
            have Q10 := Lib.hid (Q9.out.after h10)
            have t10 := Lib.hid (t9.out.trans (h10.mono t9.out.size))
            clear h10 V9 L9 Q9 t9
            cases lq
            · skip
              have x1 := V10.out.cell 1
              simp only [List.getElem?_cons_zero, List.getElem?_cons_succ] at x1
              have HF := Lib.hid (HC3.out (by simp) (by rw [hx, hy]; simp) 1 2 (by rw [hx, hy]; unfold pickC; rw [if_pos (Or.inr ⟨rfl, HZ.out⟩)]) (by rw [hx, hy]; rw [HLQ.out]; simp))
              go_wp2_with (first | (with_reducible refine wpl_seg_load aggCm sizeCm (.tmp 49) rfl rfl Q10.out 3 xa HCA.out HCL.out.1 rfl ?_) | (with_reducible refine wpl_seg_load aggCm sizeCm (.tmp 52) rfl rfl Q10.out 44 xb HCB.out HCL.out.2 rfl ?_) | ((with_reducible refine wpl_plstore (.tmp 4) (.tmp 62) rfl rfl L10.out rfl rfl rfl rfl rfl ?_); intro w9 R9 g9 e9; have T9 := Lib.hid (t10.out.grown g9 t10.out.size (fun k e => by cases e; omega)); have S9 := Lib.hid R9; clear R9 g9 e9))
              refine bodyPost_ret (plret2 rfl _ S9.out rfl) rfl ?_
              rw [HF.out]
              exact ⟨rfl, T9.out⟩
            · skip
              have x1 := V10.out.cell 1
              simp only [List.getElem?_cons_zero, List.getElem?_cons_succ] at x1
              have HF := Lib.hid (HC3.out (by simp) (by rw [hx, hy]; simp) 1 3 (by rw [hx, hy]; unfold pickC; rw [if_pos (Or.inr ⟨rfl, HZ.out⟩)]) (by rw [hx, hy]; rw [HLQ.out]; simp))
              go_wp2_with (first | (with_reducible refine wpl_seg_load aggCm sizeCm (.tmp 49) rfl rfl Q10.out 3 xa HCA.out HCL.out.1 rfl ?_) | (with_reducible refine wpl_seg_load aggCm sizeCm (.tmp 52) rfl rfl Q10.out 44 xb HCB.out HCL.out.2 rfl ?_) | ((with_reducible refine wpl_plstore (.tmp 4) (.tmp 62) rfl rfl L10.out rfl rfl rfl rfl rfl ?_); intro w9 R9 g9 e9; have T9 := Lib.hid (t10.out.grown g9 t10.out.size (fun k e => by cases e; omega)); have S9 := Lib.hid R9; clear R9 g9 e9))
              refine bodyPost_ret (plret2 rfl _ S9.out rfl) rfl ?_
              rw [HF.out]
              exact ⟨rfl, T9.out⟩
          · rw [if_neg hz] at KN
            have HZ := Lib.hid hz
            clear hz
            go_wp2_with (with_reducible refine wpl_seg_load aggPr sizePr (.tmp 6) rfl rfl Q9.out 0 rp (by rw [List.drop_zero, List.take_of_length_le (Nat.le_of_eq hlp.out)]) hlp.out rfl ?_)
            ((with_reducible refine (KN.out).mono ?_); rintro e w10 ⟨rfl, h10⟩)
            have V10 := Lib.hid (V9.out.after h10)
            have L10 := Lib.hid (L9.out.after h10)
            have Q10 := Lib.hid (Q9.out.after h10)
            have t10 := Lib.hid (t9.out.trans (h10.mono t9.out.size))
            clear h10 V9 L9 Q9 t9
            cases lq
            · skip
              have x1 := V10.out.cell 1
              simp only [List.getElem?_cons_zero, List.getElem?_cons_succ] at x1
              have HF := Lib.hid (HC3.out (by simp) (by rw [hx, hy]; simp) 0 1 (by rw [hx, hy]; unfold pickC; rw [if_neg (by simp; have := HZ.out; omega)]) (by rw [hx, hy]; rw [HLQ.out]; simp))
              go_wp2_with (first | (with_reducible refine wpl_seg_load aggCm sizeCm (.tmp 49) rfl rfl Q10.out 3 xa HCA.out HCL.out.1 rfl ?_) | (with_reducible refine wpl_seg_load aggCm sizeCm (.tmp 52) rfl rfl Q10.out 44 xb HCB.out HCL.out.2 rfl ?_) | ((with_reducible refine wpl_plstore (.tmp 4) (.tmp 62) rfl rfl L10.out rfl rfl rfl rfl rfl ?_); intro w9 R9 g9 e9; have T9 := Lib.hid (t10.out.grown g9 t10.out.size (fun k e => by cases e; omega)); have S9 := Lib.hid R9; clear R9 g9 e9))
              refine bodyPost_ret (plret2 rfl _ S9.out rfl) rfl ?_
              rw [HF.out]
              exact ⟨rfl, T9.out⟩
            · skip
              have x1 := V10.out.cell 1
              simp only [List.getElem?_cons_zero, List.getElem?_cons_succ] at x1
              have HF := Lib.hid (HC3.out (by simp) (by rw [hx, hy]; simp) 0 3 (by rw [hx, hy]; unfold pickC; rw [if_neg (by simp; have := HZ.out; omega)]) (by rw [hx, hy]; rw [HLQ.out]; simp))
              go_wp2_with (first | (with_reducible refine wpl_seg_load aggCm sizeCm (.tmp 49) rfl rfl Q10.out 3 xa HCA.out HCL.out.1 rfl ?_) | (with_reducible refine wpl_seg_load aggCm sizeCm (.tmp 52) rfl rfl Q10.out 44 xb HCB.out HCL.out.2 rfl ?_) | ((with_reducible refine wpl_plstore (.tmp 4) (.tmp 62) rfl rfl L10.out rfl rfl rfl rfl rfl ?_); intro w9 R9 g9 e9; have T9 := Lib.hid (t10.out.grown g9 t10.out.size (fun k e => by cases e; omega)); have S9 := Lib.hid R9; clear R9 g9 e9))
              refine bodyPost_ret (plret2 rfl _ S9.out rfl) rfl ?_
              rw [HF.out]
              exact ⟨rfl, T9.out⟩
  · skip
    cases hx : EC.may t a 0
    · cases hy : EC.may t b 1
      · skip
        have KE1 : Hid (∀ w, Calls Try.prog 31 #[va t, .agg rp.toArray] w fun e w' => ∃ A c, e = .returned (.slice A 0 c) ∧ 0 ≤ c ∧ Row w' w'.heap.size A (eiv []) ∧ Below w.heap.size w w') := Lib.hid (fun w => by
          have h := KE.out w
          rw [show able t a b 2 = [] by rw [able_two, hx, hy]; rfl] at h
          exact h)
        have HF := Lib.hid (HC2.out (by simp) hx hy)
        obtain ⟨z, hz⟩ : ∃ z : Int, (if EC.hurt t a 0 = true ∨ EC.hurt t b 1 = true then 21 else 50) = z := ⟨_, rfl⟩
        rw [hz] at KW HF
        clear hz
        go_wp2_with (first | (with_reducible refine wpl_vload (.tmp 2) rfl rfl V7.out rfl ?_) | (with_reducible refine wpl_seg_load aggPr sizePr (.tmp 6) rfl rfl Q7.out 0 rp (by rw [List.drop_zero, List.take_of_length_le (Nat.le_of_eq hlp.out)]) hlp.out rfl ?_))
        ((with_reducible refine (KE1.out _).mono ?_); rintro e w8 ⟨A, ce, rfl, hcap, hrow, h8⟩)
        have V8 := Lib.hid (V7.out.after h8)
        have L8 := Lib.hid (L7.out.after h8)
        have Q8 := Lib.hid (Q7.out.after h8)
        have t8 := Lib.hid (t7.out.trans (h8.mono t7.out.size))
        clear h8 V7 L7 Q7 t7
        go_wp2_with (first | (with_reducible refine wpl_vload (.tmp 2) rfl rfl V8.out rfl ?_) | (with_reducible refine wpl_seg_load aggPr sizePr (.tmp 6) rfl rfl Q8.out 0 rp (by rw [List.drop_zero, List.take_of_length_le (Nat.le_of_eq hlp.out)]) hlp.out rfl ?_))
        ((with_reducible refine (KW.out _).mono ?_); rintro e w9 ⟨rfl, h9⟩)
        have V9 := Lib.hid (V8.out.after h9)
        have L9 := Lib.hid (L8.out.after h9)
        have Q9 := Lib.hid (Q8.out.after h9)
        have t9 := Lib.hid (t8.out.trans (h9.mono t8.out.size))
        clear h9 V8 L8 Q8 t8
        go_wp2_with (first | ((with_reducible refine wpl_plstore (.tmp 4) (.tmp 35) rfl rfl L9.out rfl rfl rfl rfl rfl ?_); intro w9 R9 g9 e9; have T9 := Lib.hid (t9.out.grown g9 t9.out.size (fun k e => by cases e; omega)); have S9 := Lib.hid R9; clear R9 g9 e9))
        refine bodyPost_ret (plret2 rfl _ S9.out rfl) rfl ?_
        rw [HF.out]
        exact ⟨rfl, T9.out⟩
      · skip
        have KE1 : Hid (∀ w, Calls Try.prog 31 #[va t, .agg rp.toArray] w fun e w' => ∃ A c, e = .returned (.slice A 1 c) ∧ 1 ≤ c ∧ Row w' w'.heap.size A (eiv [1]) ∧ Below w.heap.size w w') := Lib.hid (fun w => by
          have h := KE.out w
          rw [show able t a b 2 = [1] by rw [able_two, hx, hy]; rfl] at h
          exact h)
        go_wp2_with (first | (with_reducible refine wpl_vload (.tmp 2) rfl rfl V7.out rfl ?_) | (with_reducible refine wpl_seg_load aggPr sizePr (.tmp 6) rfl rfl Q7.out 0 rp (by rw [List.drop_zero, List.take_of_length_le (Nat.le_of_eq hlp.out)]) hlp.out rfl ?_))
        ((with_reducible refine (KE1.out _).mono ?_); rintro e w8 ⟨A, ce, rfl, hcap, hrow, h8⟩)
        have KN := Lib.hid (KN1.out 1 A ce w8 w8.heap.size (Nat.le_refl _) hrow)
        have V8 := Lib.hid (V7.out.after h8)
        have L8 := Lib.hid (L7.out.after h8)
        have Q8 := Lib.hid (Q7.out.after h8)
        have t8 := Lib.hid (t7.out.trans (h8.mono t7.out.size))
        clear h8 V7 L7 Q7 t7
        clear hrow
        go_wp2_with (with_reducible refine wpl_seg_load aggPr sizePr (.tmp 6) rfl rfl Q8.out 0 rp (by rw [List.drop_zero, List.take_of_length_le (Nat.le_of_eq hlp.out)]) hlp.out rfl ?_)
        ((with_reducible refine (KN.out).mono ?_); rintro e w9 ⟨rfl, h9⟩)
        have V9 := Lib.hid (V8.out.after h9)
        have L9 := Lib.hid (L8.out.after h9)
        have Q9 := Lib.hid (Q8.out.after h9)
        have t9 := Lib.hid (t8.out.trans (h9.mono t8.out.size))
        clear h9 V8 L8 Q8 t8
        have x1 := V9.out.cell 1
        simp only [List.getElem?_cons_zero, List.getElem?_cons_succ] at x1
        have HF := Lib.hid (HC3.out (by simp) (by rw [hx, hy]; simp) 1 2 (by rw [hx, hy]; simp [pickC]) (by rw [hx, hy]; simp))
        go_wp2_with (first | ((with_reducible refine wpl_plstore (.tmp 4) (.tmp 62) rfl rfl L9.out rfl rfl rfl rfl rfl ?_); intro w9 R9 g9 e9; have T9 := Lib.hid (t9.out.grown g9 t9.out.size (fun k e => by cases e; omega)); have S9 := Lib.hid R9; clear R9 g9 e9))
        refine bodyPost_ret (plret2 rfl _ S9.out rfl) rfl ?_
        rw [HF.out]
        exact ⟨rfl, T9.out⟩
    · cases hy : EC.may t b 1
      · skip
        have KE1 : Hid (∀ w, Calls Try.prog 31 #[va t, .agg rp.toArray] w fun e w' => ∃ A c, e = .returned (.slice A 1 c) ∧ 1 ≤ c ∧ Row w' w'.heap.size A (eiv [0]) ∧ Below w.heap.size w w') := Lib.hid (fun w => by
          have h := KE.out w
          rw [show able t a b 2 = [0] by rw [able_two, hx, hy]; rfl] at h
          exact h)
        go_wp2_with (first | (with_reducible refine wpl_vload (.tmp 2) rfl rfl V7.out rfl ?_) | (with_reducible refine wpl_seg_load aggPr sizePr (.tmp 6) rfl rfl Q7.out 0 rp (by rw [List.drop_zero, List.take_of_length_le (Nat.le_of_eq hlp.out)]) hlp.out rfl ?_))
        ((with_reducible refine (KE1.out _).mono ?_); rintro e w8 ⟨A, ce, rfl, hcap, hrow, h8⟩)
        have KN := Lib.hid (KN1.out 0 A ce w8 w8.heap.size (Nat.le_refl _) hrow)
        have V8 := Lib.hid (V7.out.after h8)
        have L8 := Lib.hid (L7.out.after h8)
        have Q8 := Lib.hid (Q7.out.after h8)
        have t8 := Lib.hid (t7.out.trans (h8.mono t7.out.size))
        clear h8 V7 L7 Q7 t7
        clear hrow
        go_wp2_with (with_reducible refine wpl_seg_load aggPr sizePr (.tmp 6) rfl rfl Q8.out 0 rp (by rw [List.drop_zero, List.take_of_length_le (Nat.le_of_eq hlp.out)]) hlp.out rfl ?_)
        ((with_reducible refine (KN.out).mono ?_); rintro e w9 ⟨rfl, h9⟩)
        have V9 := Lib.hid (V8.out.after h9)
        have L9 := Lib.hid (L8.out.after h9)
        have Q9 := Lib.hid (Q8.out.after h9)
        have t9 := Lib.hid (t8.out.trans (h9.mono t8.out.size))
        clear h9 V8 L8 Q8 t8
        have x1 := V9.out.cell 1
        simp only [List.getElem?_cons_zero, List.getElem?_cons_succ] at x1
        have HF := Lib.hid (HC3.out (by simp) (by rw [hx, hy]; simp) 0 1 (by rw [hx, hy]; simp [pickC]) (by rw [hx, hy]; simp))
        go_wp2_with (first | ((with_reducible refine wpl_plstore (.tmp 4) (.tmp 62) rfl rfl L9.out rfl rfl rfl rfl rfl ?_); intro w9 R9 g9 e9; have T9 := Lib.hid (t9.out.grown g9 t9.out.size (fun k e => by cases e; omega)); have S9 := Lib.hid R9; clear R9 g9 e9))
        refine bodyPost_ret (plret2 rfl _ S9.out rfl) rfl ?_
        rw [HF.out]
        exact ⟨rfl, T9.out⟩
      · skip
        have KE1 : Hid (∀ w, Calls Try.prog 31 #[va t, .agg rp.toArray] w fun e w' => ∃ A c, e = .returned (.slice A 2 c) ∧ 2 ≤ c ∧ Row w' w'.heap.size A (eiv [0, 1]) ∧ Below w.heap.size w w') := Lib.hid (fun w => by
          have h := KE.out w
          rw [show able t a b 2 = [0, 1] by rw [able_two, hx, hy]; rfl] at h
          exact h)
        go_wp2_with (first | (with_reducible refine wpl_vload (.tmp 2) rfl rfl V7.out rfl ?_) | (with_reducible refine wpl_seg_load aggPr sizePr (.tmp 6) rfl rfl Q7.out 0 rp (by rw [List.drop_zero, List.take_of_length_le (Nat.le_of_eq hlp.out)]) hlp.out rfl ?_))
        ((with_reducible refine (KE1.out _).mono ?_); rintro e w8 ⟨A, ce, rfl, hcap, hrow, h8⟩)
        have KN := Lib.hid (KN2.out A ce hcap w8 w8.heap.size (Nat.le_refl _) hrow)
        have V8 := Lib.hid (V7.out.after h8)
        have L8 := Lib.hid (L7.out.after h8)
        have Q8 := Lib.hid (Q7.out.after h8)
        have t8 := Lib.hid (t7.out.trans (h8.mono t7.out.size))
        clear h8 V7 L7 Q7 t7
        clear hrow
        by_cases hz : a.e < b.e
        · rw [if_pos hz] at KN
          have HZ := Lib.hid hz
          clear hz
          go_wp2_with (with_reducible refine wpl_seg_load aggPr sizePr (.tmp 6) rfl rfl Q8.out 0 rp (by rw [List.drop_zero, List.take_of_length_le (Nat.le_of_eq hlp.out)]) hlp.out rfl ?_)
          ((with_reducible refine (KN.out).mono ?_); rintro e w9 ⟨rfl, h9⟩)
          have V9 := Lib.hid (V8.out.after h9)
          have L9 := Lib.hid (L8.out.after h9)
          have Q9 := Lib.hid (Q8.out.after h9)
          have t9 := Lib.hid (t8.out.trans (h9.mono t8.out.size))
          clear h9 V8 L8 Q8 t8
          cases lq
          · skip
            have x1 := V9.out.cell 1
            simp only [List.getElem?_cons_zero, List.getElem?_cons_succ] at x1
            have HF := Lib.hid (HC3.out (by simp) (by rw [hx, hy]; simp) 1 2 (by rw [hx, hy]; unfold pickC; rw [if_pos (Or.inr ⟨rfl, HZ.out⟩)]) (by rw [hx, hy]; rw [HLQ.out]; simp))
            go_wp2_with (first | (with_reducible refine wpl_seg_load aggCm sizeCm (.tmp 49) rfl rfl Q9.out 3 xa HCA.out HCL.out.1 rfl ?_) | (with_reducible refine wpl_seg_load aggCm sizeCm (.tmp 52) rfl rfl Q9.out 44 xb HCB.out HCL.out.2 rfl ?_) | ((with_reducible refine wpl_plstore (.tmp 4) (.tmp 62) rfl rfl L9.out rfl rfl rfl rfl rfl ?_); intro w9 R9 g9 e9; have T9 := Lib.hid (t9.out.grown g9 t9.out.size (fun k e => by cases e; omega)); have S9 := Lib.hid R9; clear R9 g9 e9))
            refine bodyPost_ret (plret2 rfl _ S9.out rfl) rfl ?_
            rw [HF.out]
            exact ⟨rfl, T9.out⟩
          · skip
            have x1 := V9.out.cell 1
            simp only [List.getElem?_cons_zero, List.getElem?_cons_succ] at x1
            have HF := Lib.hid (HC3.out (by simp) (by rw [hx, hy]; simp) 1 3 (by rw [hx, hy]; unfold pickC; rw [if_pos (Or.inr ⟨rfl, HZ.out⟩)]) (by rw [hx, hy]; rw [HLQ.out]; simp))
            go_wp2_with (first | (with_reducible refine wpl_seg_load aggCm sizeCm (.tmp 49) rfl rfl Q9.out 3 xa HCA.out HCL.out.1 rfl ?_) | (with_reducible refine wpl_seg_load aggCm sizeCm (.tmp 52) rfl rfl Q9.out 44 xb HCB.out HCL.out.2 rfl ?_) | ((with_reducible refine wpl_plstore (.tmp 4) (.tmp 62) rfl rfl L9.out rfl rfl rfl rfl rfl ?_); intro w9 R9 g9 e9; have T9 := Lib.hid (t9.out.grown g9 t9.out.size (fun k e => by cases e; omega)); have S9 := Lib.hid R9; clear R9 g9 e9))
            refine bodyPost_ret (plret2 rfl _ S9.out rfl) rfl ?_
            rw [HF.out]
            exact ⟨rfl, T9.out⟩
        · rw [if_neg hz] at KN
          have HZ := Lib.hid hz
          clear hz
          go_wp2_with (with_reducible refine wpl_seg_load aggPr sizePr (.tmp 6) rfl rfl Q8.out 0 rp (by rw [List.drop_zero, List.take_of_length_le (Nat.le_of_eq hlp.out)]) hlp.out rfl ?_)
          ((with_reducible refine (KN.out).mono ?_); rintro e w9 ⟨rfl, h9⟩)
          have V9 := Lib.hid (V8.out.after h9)
          have L9 := Lib.hid (L8.out.after h9)
          have Q9 := Lib.hid (Q8.out.after h9)
          have t9 := Lib.hid (t8.out.trans (h9.mono t8.out.size))
          clear h9 V8 L8 Q8 t8
          cases lq
          · skip
            have x1 := V9.out.cell 1
            simp only [List.getElem?_cons_zero, List.getElem?_cons_succ] at x1
            have HF := Lib.hid (HC3.out (by simp) (by rw [hx, hy]; simp) 0 1 (by rw [hx, hy]; unfold pickC; rw [if_neg (by simp; have := HZ.out; omega)]) (by rw [hx, hy]; rw [HLQ.out]; simp))
            go_wp2_with (first | (with_reducible refine wpl_seg_load aggCm sizeCm (.tmp 49) rfl rfl Q9.out 3 xa HCA.out HCL.out.1 rfl ?_) | (with_reducible refine wpl_seg_load aggCm sizeCm (.tmp 52) rfl rfl Q9.out 44 xb HCB.out HCL.out.2 rfl ?_) | ((with_reducible refine wpl_plstore (.tmp 4) (.tmp 62) rfl rfl L9.out rfl rfl rfl rfl rfl ?_); intro w9 R9 g9 e9; have T9 := Lib.hid (t9.out.grown g9 t9.out.size (fun k e => by cases e; omega)); have S9 := Lib.hid R9; clear R9 g9 e9))
            refine bodyPost_ret (plret2 rfl _ S9.out rfl) rfl ?_
            rw [HF.out]
            exact ⟨rfl, T9.out⟩
          · skip
            have x1 := V9.out.cell 1
            simp only [List.getElem?_cons_zero, List.getElem?_cons_succ] at x1
            have HF := Lib.hid (HC3.out (by simp) (by rw [hx, hy]; simp) 0 3 (by rw [hx, hy]; unfold pickC; rw [if_neg (by simp; have := HZ.out; omega)]) (by rw [hx, hy]; rw [HLQ.out]; simp))
            go_wp2_with (first | (with_reducible refine wpl_seg_load aggCm sizeCm (.tmp 49) rfl rfl Q9.out 3 xa HCA.out HCL.out.1 rfl ?_) | (with_reducible refine wpl_seg_load aggCm sizeCm (.tmp 52) rfl rfl Q9.out 44 xb HCB.out HCL.out.2 rfl ?_) | ((with_reducible refine wpl_plstore (.tmp 4) (.tmp 62) rfl rfl L9.out rfl rfl rfl rfl rfl ?_); intro w9 R9 g9 e9; have T9 := Lib.hid (t9.out.grown g9 t9.out.size (fun k e => by cases e; omega)); have S9 := Lib.hid R9; clear R9 g9 e9))
            refine bodyPost_ret (plret2 rfl _ S9.out rfl) rfl ?_
            rw [HF.out]
            exact ⟨rfl, T9.out⟩
end Go.Proofs.Yticigjkaangkmaa

