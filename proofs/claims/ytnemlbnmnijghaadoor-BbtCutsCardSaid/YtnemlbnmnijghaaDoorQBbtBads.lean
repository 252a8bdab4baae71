/- The contracts of the laws' bads, and of the document's Format where it refuses. Condition: the list is there; 16 to 40 blocks. -/
import Derived.Test.YtnemlbnmnijghaaDoorQBbtUses
import Derived.Test.YtnemlbnmnijghaaDoorQBbtSpeaks
namespace Go.Proofs.YtnemlbnmnijghaaDoor
open Go.RowKit
set_option maxRecDepth 100000 in
set_option maxHeartbeats 16000000 in
theorem refFormat_no (n : Nat) (hn1 : 16 ≤ n) (hn2 : n ≤ 40) (g : Nat) (cap : Nat) (bs : List Bool) (hbs : bs.length = n) (w : World) (hr : Row w w.heap.size (some ⟨g, 0, none⟩) (bl bs)) (f : Nat → Bool) (hf : ∀ j, j < n → bs[j]? = some (f j)) (hno : f 0 = true ∨ f 1 = true ∨ (refUses n f n 2 []).length < n - 6) :
    Calls Tryd.prog 16 #[.slice (some ⟨g, 0, none⟩) n cap] w fun e w' => e = .returned (.pointer none) ∧ Below w.heap.size w w' := by
  have z := zeroRef
  have hb0 : Below w.heap.size w (w.alloc (.cells #[] 4)) := (Below.refl _ _).alloc (Nat.le_refl _) _
  have P0 : Pair2 w.heap.size (w.alloc (.cells #[] 4)) (.slice none 0 0) (.slice (some ⟨w.heap.size, 0, none⟩) 0 0) [] [] := (Pair2.start w.heap.size w).mkV (Nat.le_refl _)
  have HR0 := hr.below hb0
  have o2 : ∀ z ∈ bl bs, z.oneCell' = true := fun z hz => by obtain ⟨_, _, rfl⟩ := List.mem_map.1 hz; rfl
  have e2 : (bl bs).length = n := by simp [bl, hbs]
  have HCB : Hid (∀ X j, Below w.heap.size w X → j < n → X.cell? ⟨g, j, none⟩ = some (.bool (f j))) := Lib.hid (fun X j hb hj => by
    obtain ⟨a, e, h2, h3⟩ := hr j (.bool (f j)) (by rw [bl, List.getElem?_map, hf j hj]; rfl)
    cases e
    rw [add_off, Nat.zero_add] at h3
    exact (hb.cell (p := ⟨g, j, none⟩) h2).trans h3)
  obtain ⟨U, hUU⟩ : ∃ U, U = refUses n f n 2 [] := ⟨_, rfl⟩
  rw [← hUU] at hno
  have HUU := Lib.hid hUU
  have HNO := Lib.hid hno
  have HB0 := Lib.hid hb0
  have HP0 := Lib.hid P0
  have HRR := Lib.hid HR0
  have HO2 := Lib.hid o2
  have HE2 := Lib.hid e2
  have HBS := Lib.hid hbs
  have hn40 : (n : Int) ≤ 40 := by omega
  have hn16 : (16 : Int) ≤ (n : Int) := by omega
  clear hb0 P0 HR0 o2 e2 hr hf hbs hUU hno
  go_enter Tryd.func16, Tryd.ntmps16
  go_wp2_with (at_builtin; refine wpl_appV rfl (.tmp 5) (.tmp 6) rfl HP0.out rfl HRR.out (by rw [HE2.out]; rfl) HO2.out (by rw [HE2.out]; omega) HB0.out.size ?_; intro A1 c1 w1 p1 b1)
  have B1 : Below w.heap.size w w1 := HB0.out.trans b1
  have M0 : Mak (w1.alloc (.cells #[.slice none 0 0, .slice A1 (bl bs).length c1] 100)) w.heap.size w1.heap.size [] bs := ⟨⟨none, 0, .slice A1 (bl bs).length c1, Blk.new w1 _ _, p1.alloc _, (fun e => by cases e), (fun e => Nat.lt_irrefl _ (p1.V.lt _ e).2)⟩, B1.size⟩
  have B2 : Below w.heap.size w (w1.alloc (.cells #[.slice none 0 0, .slice A1 (bl bs).length c1] 100)) := B1.alloc B1.size _
  have HM0 := Lib.hid M0
  have HB2 := Lib.hid B2
  obtain ⟨m, hm⟩ : ∃ m, m = w1.heap.size := ⟨_, rfl⟩
  rw [← hm] at HM0
  simp only [← hm]
  clear B1 M0 B2 p1 b1 HP0 HRR HB0 HO2 z hm
  go_loopw [4] (fun i wr => ∃ j k : Nat, ∃ us : List Nat, (2 ≤ j ∧ j + k = n + 2 ∧ us.length ≤ n - 6) ∧ i = .int .i64 j ∧ Mak wr w.heap.size m us bs ∧ Below w.heap.size w wr ∧ Hid (U = refUses n f k j us)) (fun i _ => n + 2 - (intOf i).toNat)
  case atStart => exact ⟨2, n, [], ⟨by omega, by omega, by simp⟩, rfl, HM0.out, HB2.out, HUU⟩
  case round =>
    obtain ⟨j, k, us, ⟨hj2, hjk, hus⟩, rfl, hM, hB, HQ⟩ := hrel
    clear HM0 HB2
    have HM := Lib.hid hM
    have HB := Lib.hid hB
    obtain ⟨⟨Au, cu, vV, hBk, hP, n1, n2⟩, hwm⟩ := hM
    have c0 := hBk.cell 0
    simp only [List.getElem?_cons_zero] at c0
    have hml := hBk.lt
    by_cases hgo : j < n ∧ us.length < n - 6
    · obtain ⟨g1, g2⟩ := hgo
      obtain ⟨k', rfl⟩ : ∃ k', k = k' + 1 := ⟨k - 1, by omega⟩
      have hQ := HQ.out
      rw [refUses, if_pos ⟨g1, g2⟩] at hQ
      have cb := HCB.out wr j HB.out g1
      obtain ⟨t, ht⟩ : ∃ t, t = f j := ⟨_, rfl⟩
      rw [← ht] at cb hQ
      have d1 : decide ((j : Int) < (n : Int)) = true := by simp; omega
      have d2 : decide ((us.length : Int) < (n : Int) - 6) = true := by simp; omega
      have hj0 : (0 : Int) ≤ (j : Int) := by omega
      have hjn : (j : Int) < (n : Int) := by omega
      have HN := Lib.hid (And.intro n1 n2)
      have HPP := Lib.hid hP
      have HBK := Lib.hid hBk
      have HJ := Lib.hid (And.intro hj2 (And.intro hjk (And.intro g1 g2)))
      have HWM := Lib.hid hwm
      clear hB ht HQ hP n1 n2 hBk hj2 hjk hus g1 g2 hwm
      cases t with
      | true =>
        rw [if_pos rfl] at hQ
        have HQ2 := Lib.hid hQ
        clear hQ
        go_wp2_with fail
        obtain ⟨a1, a2, a3, a4⟩ := HJ.out
        exact ⟨⟨j + 1, k', us, ⟨by omega, by omega, by omega⟩, by go_num, HM.out, HB.out, HQ2⟩, by simp [intOf]; omega⟩
      | false =>
        rw [if_neg (by simp)] at hQ
        have HQ2 := Lib.hid hQ
        have e1 : (iv us).length = us.length := by simp [iv]
        have PA := Lib.hid (HPP.out.alloc (.cells #[.int .i64 (j : Int)] 3))
        have RA : Hid (Row (wr.alloc (.cells #[.int .i64 (j : Int)] 3)) (wr.alloc (.cells #[.int .i64 (j : Int)] 3)).heap.size (some ⟨wr.heap.size, 0, none⟩) [.int .i64 (j : Int)]) := Lib.hid (row_blk (Z := []) (Blk.new wr 3 [.int .i64 (j : Int)]))
        have BA := Lib.hid (HB.out.alloc HB.out.size (.cells #[.int .i64 (j : Int)] 3))
        have hus2 : us.length ≤ 34 := by have := HJ.out; omega
        have E1 := Lib.hid e1
        clear hQ e1
        go_wp2_with (first
          | (at_builtin; refine wpl_appU rfl (.tmp 36) (.tmp 38) rfl PA.out rfl RA.out rfl rfl (by rw [E1.out]; omega) BA.out.size ?_; intro A2 c2 w2 p2 g2 o2; have hB2 := (HBK.out.alloc (.cells #[.int .i64 (j : Int)] 3)).grown g2 (fun e => HN.out.1 e.symm))
          | (with_reducible refine wpl_blk (fun w => by kernel_rfl) rfl rfl (.tmp 41) (.tmp 39) rfl rfl hB2 0 (by simp) rfl rfl ?_; intro w3 B3 g3 e3; clear e3))
        have n1' : (Value.slice A2 ((iv us).length + 1) c2).ownBlock ≠ some m := by
          intro e
          rcases o2 with o2 | o2
          · exact HN.out.1 (o2.symm.trans e)
          · have h' : (wr.alloc (.cells #[.int .i64 (j : Int)] 3)).heap.size = m := Option.some.inj (o2.symm.trans e)
            have h2 : (wr.alloc (.cells #[.int .i64 (j : Int)] 3)).heap.size = wr.heap.size + 1 := by simp
            omega
        have P3 : Pair2 w.heap.size w3 (.slice A2 ((iv us).length + 1) c2) vV (iv us ++ [.int .i64 (j : Int)]) (bl bs) := ⟨World.ownsRow.kept p2.U g3 (.inr n1'), World.ownsRow.kept p2.V g3 (.inr HN.out.2), p2.ne⟩
        have eA : iv us ++ [.int .i64 (j : Int)] = iv (us ++ [j]) := by simp [iv]
        have eL : (iv us).length + 1 = (us ++ [j]).length := by simp [iv]
        rw [eA] at P3
        rw [eL] at P3 B3 n1'
        have M3 : Mak w3 w.heap.size m (us ++ [j]) bs := ⟨⟨A2, c2, vV, B3, P3, n1', HN.out.2⟩, HWM.out⟩
        have BB : Below w.heap.size w w3 := (BA.out.grown g2 BA.out.size (fun k e => (World.ownsRow.lt PA.out.U k e).1)).grown g3 (Nat.le_trans BA.out.size g2.size) (fun k e => by cases e; exact HWM.out)
        obtain ⟨a1, a2, a3, a4⟩ := HJ.out
        exact ⟨⟨j + 1, k', us ++ [j], ⟨by omega, by omega, by rw [List.length_append, List.length_singleton]; omega⟩, by go_num, M3, BB, HQ2⟩, by simp [intOf]; omega⟩
    · have hq : U = us := by rw [HQ.out, refUses_stop hgo]
      have hno := HNO.out
      rw [hq] at hno
      have ct0 := HCB.out wr 0 HB.out (by omega)
      have ct1 := HCB.out wr 1 HB.out (by omega)
      obtain ⟨x0, hx0⟩ : ∃ x, x = f 0 := ⟨_, rfl⟩
      obtain ⟨x1, hx1⟩ : ∃ x, x = f 1 := ⟨_, rfl⟩
      rw [← hx0] at ct0 hno
      rw [← hx1] at ct1 hno
      have hus34 : us.length ≤ 34 := by omega
      have hor : (j < n ∧ decide ((j : Int) < (n : Int)) = true ∧ decide ((us.length : Int) < (n : Int) - 6) = false) ∨ (¬ j < n ∧ decide ((j : Int) < (n : Int)) = false) := by
        rcases Nat.lt_or_ge j n with h | h
        · refine .inl ⟨h, by simp; omega, ?_⟩
          have : ¬ us.length < n - 6 := fun h2 => hgo ⟨h, h2⟩
          simp; omega
        · exact .inr ⟨by omega, by simp; omega⟩
      clear hB HQ hP n1 n2 hBk hwm hgo hus hq hx0 hx1
      cases x0 with
      | true =>
        clear hno
        rcases hor with ⟨hlt, d1, d2⟩ | ⟨hlt, d1⟩
        · go_wp2_with fail
          go_ret
          exact ⟨rfl, HB.out⟩
        · cases d2 : decide ((us.length : Int) < (n : Int) - 6) with
          | true =>
            go_wp2_with fail
            go_ret
            exact ⟨rfl, HB.out⟩
          | false =>
            go_wp2_with fail
            go_ret
            exact ⟨rfl, HB.out⟩
      | false =>
        cases x1 with
        | true =>
          clear hno
          rcases hor with ⟨hlt, d1, d2⟩ | ⟨hlt, d1⟩
          · go_wp2_with fail
            go_ret
            exact ⟨rfl, HB.out⟩
          · cases d2 : decide ((us.length : Int) < (n : Int) - 6) with
            | true =>
              go_wp2_with fail
              go_ret
              exact ⟨rfl, HB.out⟩
            | false =>
              go_wp2_with fail
              go_ret
              exact ⟨rfl, HB.out⟩
        | false =>
          have d3 : decide ((us.length : Int) < (n : Int) - 6) = true := by
            rcases hno with h | h | h
            · cases h
            · cases h
            · simp; omega
          clear hno
          rcases hor with ⟨_, _, d2⟩ | ⟨hlt, d1⟩
          · rw [d3] at d2; cases d2
          · go_wp2_with fail
            go_ret
            exact ⟨rfl, HB.out⟩
/-- which of n blocks are told bad -/
def badsL (n : Nat) (zs : List Int) : List Bool := (List.range n).map fun (i : Nat) => decide ((i : Int) ∈ zs)
theorem badsL_length (n : Nat) (zs : List Int) : (badsL n zs).length = n := by simp [badsL]
theorem badsL_at {n j : Nat} (zs : List Int) (h : j < n) : (badsL n zs)[j]? = some (decide ((j : Int) ∈ zs)) := by
  unfold badsL
  rw [List.getElem?_map, List.getElem?_range h]
  rfl
theorem badsL_nil (n : Nat) : badsL n [] = List.replicate n false := by
  apply List.ext_getElem?
  intro i
  rcases Nat.lt_or_ge i n with h | h
  · rw [badsL_at _ h, List.getElem?_replicate, if_pos h]; simp
  · rw [List.getElem?_eq_none (by rw [badsL_length]; exact h), List.getElem?_eq_none (by simpa using h)]
theorem badsL_set {n b : Nat} (zs : List Int) (h : b < n) : (badsL n zs).set b true = badsL n (zs ++ [(b : Int)]) := by
  apply List.ext_getElem?
  intro i
  rw [List.getElem?_set, badsL_length]
  rcases Nat.lt_or_ge i n with hi | hi
  · rw [badsL_at (zs ++ [(b : Int)]) hi]
    by_cases e : b = i
    · subst e; rw [if_pos rfl, if_pos h]; simp
    · rw [if_neg e, badsL_at _ hi]
      have : (i : Int) ≠ (b : Int) := by omega
      simp [this]
  · rw [List.getElem?_eq_none (by rw [badsL_length]; exact hi), List.getElem?_eq_none (by rw [badsL_length]; exact hi)]
    by_cases e : b = i
    · omega
    · rw [if_neg e]
/-- make of so many truths, all false -/
theorem wpl_make_bools {base : Nat} {w : World} {ops : Array Oper} {rest : List Oper} {o : Oper} {a : Act} {Q : Exit → Act → World → Prop} (hg : o.guard = none) (lo co : Operand) (hop : o.op = .makeSlice 36 lo co)
    (n : Nat) (hl : a.eval lo = .int .i64 (n : Int)) (hc : a.eval co = .int .i64 (n : Int)) (hn : n ≤ 1000) (hbase : base ≤ w.heap.size)
    (h : ∀ w', w'.ownsRow base 4 1 (.slice (some ⟨w.heap.size, 0, none⟩) n n) n (bl (List.replicate n false)) → Below base w w' → wpList Tryd.prog ops Q rest (a.put o.dst (.slice (some ⟨w.heap.size, 0, none⟩) n n)) w') :
    wpList Tryd.prog ops Q (o :: rest) a w := by
  obtain ⟨i, hi, hz, hs, hby⟩ := boolTy.hi
  refine wpList_make_full w hg lo co 36 hop base 4 i _ 1 boolTy.ht hi hz hs .i64 .i64 n n n hl hc rfl rfl (by rw [hby]; omega) (by simp only [maxLen]; omega) hbase ?_
  intro w' h1 h2
  refine h w' ?_ ((Below.refl base w).grown h2 hbase fun k hk => by cases hk)
  have e1 : (Value.bool false).cells = #[.bool false] := rfl
  rw [e1, Nat.mul_one, toList_madeCells_one] at h1
  simpa [bl] using h1
set_option maxRecDepth 100000 in
set_option maxHeartbeats 8000000 in
theorem bads_any (n : Nat) (hn1 : 16 ≤ n) (hn2 : n ≤ 40) (A : Option Addr) (cap : Nat) (zs : List Int) (w : World) (hv : Nums w w.heap.size .i64 (.slice A zs.length cap) zs) (hz : badOut n zs = false) (h20 : zs.length ≤ 20) :
    Calls Tryd.prog 17 #[.int .i64 (n : Int), .slice A zs.length cap] w fun e w' => ∃ g E, e = .returned (.slice (some ⟨g, 0, none⟩) n n) ∧ Blk w' g 4 (bl (badsL n zs) ++ E) ∧ Below w.heap.size w w' := by
  have HV := Lib.hid hv
  have HZ : Hid (∀ z ∈ zs, 0 ≤ z ∧ z < (n : Int)) := Lib.hid (fun z hz' => by
    have h := hz
    unfold badOut at h
    rw [List.any_eq_false] at h
    have := h z hz'
    simp only [decide_eq_true_eq, not_or] at this
    omega)
  have hn40 : (n : Int) ≤ 40 := by omega
  have hn16 : (16 : Int) ≤ (n : Int) := by omega
  clear hv hz
  go_enter Tryd.func17, Tryd.ntmps17
  go_wp2_with (refine wpl_make_bools rfl (.tmp 8) (.tmp 8) rfl n rfl rfl (by omega) (Nat.le_refl w.heap.size) ?_; intro w1 o1 b1)
  obtain ⟨g, E, hA, q1, q2, hB, _⟩ := own_blk o1 (by omega)
  have hg : w.heap.size = g := by cases hA; rfl
  rw [← badsL_nil] at hB
  have HB1 := Lib.hid hB
  have Hb1 := Lib.hid b1
  have hwg : Hid (w.heap.size ≤ g) := Lib.hid q1
  clear o1 b1 q1 q2 hA hB
  have kz := HZ.out
  rw [hg]
  go_wp2_with fail
  go_loopw [12] (fun i wr => ∃ j : Nat, j ≤ zs.length ∧ i = .int .i64 j ∧ Blk wr g 4 (bl (badsL n (zs.take j)) ++ E) ∧ Below w.heap.size w wr) (fun i _ => zs.length - (intOf i).toNat)
  case atStart => exact ⟨0, Nat.zero_le _, rfl, HB1.out, Hb1.out⟩
  case round =>
    obtain ⟨j, hj, rfl, hB, hb⟩ := hrel
    clear HB1 Hb1
    have HB := Lib.hid hB
    have Hb := Lib.hid hb
    by_cases hlt : j < zs.length
    · obtain ⟨A', cap', ev, hl1, hl2, hrow, hwf⟩ := HV.out
      obtain ⟨rfl, _, rfl⟩ := Value.slice.inj ev
      obtain ⟨p2, rfl, hab, hcell⟩ := hrow.at_ (k := j) (by simpa using hlt)
      have hc2 : wr.cell? (p2.add j) = some (Value.int .i64 zs[j]) := by
        have h1 := (hb.cell (p := p2.add j) (by rw [add_block]; exact hab)).trans hcell
        rw [List.getElem_map] at h1
        exact h1
      have hzm := kz _ (List.getElem_mem hlt)
      have htk := take_snoc zs (List.getElem?_eq_getElem hlt)
      obtain ⟨z, hzz⟩ : ∃ z, z = zs[j] := ⟨_, rfl⟩
      rw [← hzz] at hc2 hzm htk
      obtain ⟨b, rfl⟩ : ∃ b : Nat, z = b := ⟨z.toNat, by omega⟩
      have hbn : (b : Int) < (n : Int) := hzm.2
      have hb0 : (0 : Int) ≤ (b : Int) := by omega
      have hset := (bl_set (badsL n (zs.take j)) E (j := b) (by rw [badsL_length]; omega) true).trans (by rw [badsL_set _ (by omega), ← htk])
      have HI : Hid (b < (bl (badsL n (zs.take j)) ++ E).length) := Lib.hid (by rw [List.length_append, bl, List.length_map, badsL_length]; omega)
      clear hcell hzz ev hrow hwf hl1 hl2 hzm htk hab kz hb
      go_wp2_with (with_reducible refine wpl_blk_bool true bool_one (.tmp 18) (.const (.bool true)) rfl rfl hB b HI.out rfl rfl _ hset ?_; intro w5 L5 g5 e5; simp only [Act.put])
      exact ⟨⟨j + 1, by omega, by go_num, L5, Hb.out.grown g5 Hb.out.size (fun k e => by cases e; exact hwg.out)⟩, by simp [intOf]; omega⟩
    · obtain rfl : j = zs.length := by omega
      have hfull : zs.take zs.length = zs := List.take_length
      rw [hfull] at HB
      clear hB hb hlt hj kz
      go_wp2_with fail
      go_ret
      exact ⟨g, E, rfl, HB.out, Hb.out⟩
end Go.Proofs.YtnemlbnmnijghaaDoor

