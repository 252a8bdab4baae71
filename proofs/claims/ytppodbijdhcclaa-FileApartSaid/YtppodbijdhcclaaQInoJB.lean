/- Several texts of the proof, joined: what each has is said at its head. -/
import Derived.Test.YtppodbijdhcclaaQInoJA
import Derived.Laws.OwnMore
import Derived.Test.YtppodbijdhcclaaQCore
import Derived.Test.YtppodbijdhcclaaQLogK
import Derived.Laws.IdiomStrings
import Derived.Test.YtppodbijdhcclaaQConv
import Derived.Laws.Runes
import Derived.Test.YtppodbijdhcclaaQAppendBy
import Derived.Lib.AppendStr
/- Appending to a slice of entries of the call's own. No condition. -/
namespace Go.Proofs.Ytppodbijdhcclaa
open Go.RowKit
/-- append to a row of entries, of entries that are read, nil or not -/
theorem wpl_append_ents {ti : TypeInfo} {w : World} {base : Nat} {v : Value} {n : Nat} {xs : List EN} {ops : Array Oper} {rest : List Oper} {o : Oper} {a : Act} {Q : Exit → Act → World → Prop} {z : Value}
    (hi : Try.prog.info? 129 = some ti) (hz : ti.zero = some z) (hzc : z.cells.size = 2) (hs : ti.size = 2) (hby : ti.bytes = 24) (hgd : o.guard = none) (s x : Operand)
    (ho : o.op = .call { callee := .builtin .append, args := #[s, x], argTypes := #[64, 64] })
    (hn : xs.length = n) (hv : a.eval s = v) (hown : OwnE w base v xs) (A : Option Addr) (m c : Nat) (L : List EN) (hm : L.length = m) (hx : a.eval x = .slice A m c) (B : Nat) (hr : Row w B A (erows L))
    (hnm : n + m ≤ 100000) (hbase : base ≤ w.heap.size) (k : Nat) (hk : n + m = k)
    (h : ∀ A' c' w', OwnE w' base (.slice A' k c') (xs ++ L) → w.grownBy w' v.ownBlock → wpList Try.prog ops Q rest (a.put o.dst (.slice A' k c')) w') : wpList Try.prog ops Q (o :: rest) a w := by
  subst hk
  subst hn
  have hone : ∀ (A' : Option Addr) (c' : Nat) (w' : World), w'.ownsRow base 129 2 (.slice A' (xs.length + m) c') (xs.length + m) (erows xs ++ erows L) → OwnE w' base (.slice A' (xs.length + m) c') (xs ++ L) := fun A' c' w' ho => by
    unfold OwnE
    rw [erows_append, List.length_append, hm]
    exact ho
  have hown' : w.ownsRow base 129 2 v xs.length (erows xs) := hown
  cases A with
  | some ad =>
    refine wpList_append_own _ hgd s x 64 ho base 129 ti z 2 24 Try.underlying64 hi hz hs hby hzc (by omega) v xs.length (erows xs) hv hown' ad m c (erows L) hx (by rw [erows_length, hm]) (fun j u hu => by obtain ⟨a', e, _, hc⟩ := hr j u hu; cases e; exact hc) (fun u hu => erow_one u hu) (by simp only [maxLen]; omega) (by omega) hbase ?_
    intro v' w' h1 h2 _
    have h3 : ∃ A' c', v' = .slice A' (xs.length + m) c' := by
      rcases h1.2 with ⟨rfl, h0⟩ | ⟨g, cap, cur, rfl, _⟩
      · exact ⟨none, 0, by rw [h0]⟩
      · exact ⟨_, _, rfl⟩
    obtain ⟨A', c', rfl⟩ := h3
    exact h A' c' w' (hone _ _ _ h1) h2
  | none =>
    obtain rfl : L = [] := by
      cases L with
      | nil => rfl
      | cons l r =>
        obtain ⟨a', e, _⟩ := hr 0 _ rfl
        cases e
    obtain rfl : m = 0 := by simpa using hm.symm
    obtain ⟨A', c', rfl, hc1, hc2⟩ := hown.shape
    have h' := h A' c' w (by simpa using hown) (World.grownBy.refl w _)
    refine BigFrame.wpList_want (by simp [Region.wanted, hgd]) fun K hK => ?_
    have hrun : (Builtin.append_ #[64, 64] o.type #[.slice A' xs.length c', .slice none 0 c]).run Try.prog w = .ok (.slice A' xs.length c') w := by
      clear h h' hone
      generalize xs.length = N at hown' ⊢
      rcases hown'.2 with ⟨hv', h0⟩ | ⟨g, cap, cur, hv', _, _, hnc, _⟩
      · cases hv'
        simp [Builtin.append_, run_underlying Try.underlying64, sizeOf, typeInfo, hi, Builtin.lenOf, Builtin.firstCells]
      · cases hv'
        simp [Builtin.append_, run_underlying Try.underlying64, sizeOf, typeInfo, hi, Builtin.lenOf, Builtin.firstCells, hnc, storeCells]
    unfold Oper.wp execOp
    simp only [ho, resolve, invoke, builtin, Sem.run_bind, Sem.run_pure, Result.andThen_ok, List.map_toArray, List.map_cons, List.map_nil, hv, hx, hrun]
    exact hK _ _ (by simpa using h')
theorem infoE' : ∃ ti, Try.prog.info? 129 = some ti ∧ ti.zero = some (.agg #[.string ByteArray.empty, .int .i64 0]) ∧ ti.size = 2 ∧ ti.bytes = 24 := by
  have h := infoE
  cases hi : Try.prog.info? 129 with
  | none => rw [hi] at h; cases h
  | some ti =>
    rw [hi] at h
    simp only [Option.map_some, Option.some.injEq, Prod.mk.injEq] at h
    exact ⟨ti, rfl, h.1, h.2.1, h.2.2⟩
end Go.Proofs.Ytppodbijdhcclaa

/- Appending to a row of entries at a step of a region; how a row of one's own is kept. No condition. -/
namespace Go.Proofs.Ytppodbijdhcclaa
open Go Go.RowKit
theorem OwnE.grown {w w' : World} {base g : Nat} {v : Value} {es : List EN} (h : OwnE w base v es) (hg : g < base) (k : w.grownBy w' (some g)) : OwnE w' base v es :=
  World.ownsRow.kept h k (.inr fun e => by
    have := (World.ownsRow.lt h g e).1
    omega)
theorem grown_beyond {w w5 w9 : World} {g : Nat} {row : Option Nat} (h : w.grownBy w5 (some g)) (k : w5.grownBy w9 row) (hrow : ∀ q, row = some q → w.heap.size ≤ q) : w.grownBy w9 (some g) :=
  ⟨k.os.trans h.os, k.tape.trans h.tape, k.output.trans h.output, Nat.le_trans h.size k.size, fun b hb hne =>
    (k.block b (Nat.lt_of_lt_of_le hb h.size) (fun e => by have := hrow b e.symm; omega)).trans (h.block b hb hne)⟩
theorem OwnE.kept2 {w w' : World} {base g : Nat} {v : Value} {es : List EN} (h : OwnE w base v es) (k : w.grownBy w' (some g)) (hne : v.ownBlock ≠ some g) : OwnE w' base v es :=
  World.ownsRow.kept h k (.inr hne)
theorem step_append_ents {ti : TypeInfo} {w : World} {base : Nat} {v : Value} {n : Nat} {xs : List EN} {ops : Array Oper} {o : Oper} {a : Act} {K : Act → World → Prop} {Q : Exit → Act → World → Prop} {E : Prop} {z : Value}
    (hi : Try.prog.info? 129 = some ti) (hz : ti.zero = some z) (hzc : z.cells.size = 2) (hs : ti.size = 2) (hby : ti.bytes = 24) (hgd : Region.wanted o (yielded ops a.tmps) = true) (s x : Operand)
    (ho : o.op = .call { callee := .builtin .append, args := #[s, x], argTypes := #[64, 64] })
    (hn : xs.length = n) (hv : a.eval s = v) (hown : OwnE w base v xs) (ad : Addr) (m c : Nat) (L : List EN) (hm : L.length = m) (hx : a.eval x = .slice (some ad) m c) (B : Nat) (hr : Row w B (some ad) (erows L))
    (hnm : n + m ≤ 100000) (hbase : base ≤ w.heap.size) (k : Nat) (hk : n + m = k)
    (h : ∀ A' c' w', OwnE w' base (.slice A' k c') (xs ++ L) → w.grownBy w' v.ownBlock → K (a.put o.dst (.slice A' k c')) w') :
    if Region.wanted o (yielded ops a.tmps) = true then Oper.wp Try.prog o a w K Q else E := by
  rw [if_pos hgd]
  subst hk
  subst hn
  obtain ⟨v', w', hrun, h2, h3, _⟩ := run_append_own (P := Try.prog) w base 64 o.type 129 ti z 2 24 Try.underlying64 hi hz hs hby hzc (by omega) v xs.length (erows xs) hown ad m c (erows L) (by rw [erows_length, hm]) (fun j u hu => by obtain ⟨a', e, _, hc⟩ := hr j u hu; cases e; exact hc) (fun u hu => erow_one u hu) (by simp only [maxLen]; omega) (by omega) hbase
  have h4 : ∃ A' c', v' = .slice A' (xs.length + m) c' := by
    rcases h2.2 with ⟨rfl, h0⟩ | ⟨g, cap, cur, rfl, _⟩
    · exact ⟨none, 0, by rw [h0]⟩
    · exact ⟨_, _, rfl⟩
  obtain ⟨A', c', rfl⟩ := h4
  have ho2 : OwnE w' base (.slice A' (xs.length + m) c') (xs ++ L) := by
    unfold OwnE
    rw [erows_append, List.length_append, hm]
    exact h2
  unfold Oper.wp execOp
  simp only [ho, resolve, invoke, builtin, Sem.run_bind, Sem.run_pure, Result.andThen_ok, List.map_toArray, List.map_cons, List.map_nil, hv, hx, hrun]
  exact h A' c' w' ho2 h3
end Go.Proofs.Ytppodbijdhcclaa

/- What readEntries of inode reads, plainly and in memory. No condition but that the Reader is there. -/
namespace Go.Proofs.Ytppodbijdhcclaa
open Go.RowKit
def r1 (l : List UInt8) : Nat := le (l.take 1)
theorem r1_lt (l : List UInt8) : r1 l < 256 := by
  have h := le_lt (l.take 1)
  have h2 : 256 ^ (l.take 1).length ≤ 256 ^ 1 := Nat.pow_le_pow_right (by omega) (by rw [List.length_take]; omega)
  unfold r1
  omega
def rTake (n : Nat) (l : List UInt8) : List UInt8 := if n ≤ l.length then l.take n else []
def rEnt (l : List UInt8) : EN := ⟨⟨(rTake (r1 (l.drop 1)) (l.drop 2)).toArray⟩, (r1 l : Int)⟩
def rRest (l : List UInt8) : List UInt8 := (l.drop 2).drop (r1 (l.drop 1))
def rBad (b : Bool) (l : List UInt8) : Bool := ((b || decide (l.length < 1)) || decide ((l.drop 1).length < 1)) || decide ((l.drop 2).length < r1 (l.drop 1))
/-- so many entries are read: they, what is left, and whether it was too little -/
def rEs : Nat → List UInt8 → Bool → List EN × List UInt8 × Bool
  | 0, l, b => ([], l, b)
  | n + 1, l, b => (rEnt l :: (rEs n (rRest l) (rBad b l)).1, (rEs n (rRest l) (rBad b l)).2)
theorem rnum1' (g h : Nat) (l : List UInt8) (bad : Bool) (w : World) (hr : Rd w g h l bad) :
    Calls Try.prog 75 #[.pointer (some ⟨g, 0, none⟩), .int .i64 1] w fun e w' => e = .returned (.int .u64 (r1 l : Int)) ∧ Rd w' g h (l.drop 1) (bad || decide (l.length < 1)) ∧ w.grownBy w' (some g) := by
  have e1 : wid 1 = 1 := rfl
  by_cases hl : 1 ≤ l.length
  · refine (rnum_yes g h l bad 1 w hr (by rw [e1]; exact hl)).mono ?_
    rintro e w' ⟨rfl, h1, h2⟩
    rw [e1] at h1 ⊢
    rw [decide_eq_false (by omega), Bool.or_false]
    exact ⟨rfl, h1, h2⟩
  · refine (rnum_no g h l bad 1 w hr (by rw [e1]; omega)).mono ?_
    rintro e w' ⟨rfl, h1, h2⟩
    obtain rfl : l = [] := List.eq_nil_of_length_eq_zero (by omega)
    refine ⟨rfl, ?_, h2⟩
    rw [decide_eq_true (by simp), Bool.or_true]
    exact h1
theorem rbytes1 (g h : Nat) (l : List UInt8) (bad : Bool) (n : Nat) (w : World) (hr : Rd w g h l bad) (hh : h < w.heap.size) (hl : l.length ≤ 1000000) :
    Calls Try.prog 86 #[.pointer (some ⟨g, 0, none⟩), .int .i64 (n : Int)] w fun e w' => ∃ g' k c', e = .returned (.slice (some ⟨g', 0, none⟩) k c') ∧ Bytes w' w'.heap.size (.slice (some ⟨g', 0, none⟩) k c') (rTake n l) ∧
      Rd w' g h (l.drop n) (bad || decide (l.length < n)) ∧ w.grownBy w' (some g) := by
  have e1 : (max (n : Int) 0).toNat = n := by omega
  by_cases hn : n ≤ l.length
  · refine (rbytes_yes g h l bad n w hr hh (by rw [e1]; exact hn) hl).mono ?_
    rintro e w' ⟨g', k, c', rfl, _, _, h2, h3, h4⟩
    rw [e1] at h2 h3
    rw [decide_eq_false (by omega), Bool.or_false]
    refine ⟨g', k, c', rfl, ?_, h3, h4⟩
    rw [show rTake n l = l.take n from if_pos hn]
    exact h2.bytes (by rw [List.length_take]; simp only [maxLen]; omega)
  · refine (rbytes_no g h l bad n w hr hh (by rw [e1]; omega)).mono ?_
    rintro e w' ⟨g', c', rfl, _, h2, h3, h4⟩
    refine ⟨g', 0, c', rfl, ?_, ?_, h4⟩
    · rw [show rTake n l = [] from if_neg hn]
      exact h2.bytes (by simp [maxLen])
    · rw [decide_eq_true (by omega), Bool.or_true, List.drop_eq_nil_of_le (by omega)]
      exact h3
theorem rRest_le (l : List UInt8) : (rRest l).length ≤ l.length := by unfold rRest; simp only [List.length_drop]; omega
theorem Rd.beside {w w' : World} {g h : Nat} {l : List UInt8} {bad : Bool} {row : Option Nat} (hr : Rd w g h l bad) (k : w.grownBy w' row) (hh : h < w.heap.size) (h1 : row ≠ some g) (h2 : row ≠ some h) : Rd w' g h l bad :=
  hr.keep (k.block g hr.lt fun e => h1 e.symm) (k.block h hh fun e => h2 e.symm)
set_option maxRecDepth 100000 in
set_option maxHeartbeats 4000000 in
theorem readEntries_any (g h : Nat) (l : List UInt8) (bad : Bool) (w : World) (hr : Rd w g h l bad) (hh : h < w.heap.size) (hl : l.length ≤ 1000000) :
    Calls Try.prog 76 #[.pointer (some ⟨g, 0, none⟩)] w fun e w' => ∃ A c es, Hid (es = (rEs (r1 l) (l.drop 1) (bad || decide (l.length < 1))).1) ∧ e = .returned (.slice A es.length c) ∧ OwnE w' w.heap.size (.slice A es.length c) es ∧
      Rd w' g h (rEs (r1 l) (l.drop 1) (bad || decide (l.length < 1))).2.1 (rEs (r1 l) (l.drop 1) (bad || decide (l.length < 1))).2.2 ∧ w.grownBy w' (some g) := by
  have K1 := Lib.hid (rnum1' g h l bad w hr)
  have HG := Lib.hid hr.lt
  obtain ⟨N, hN⟩ : ∃ N, r1 l = N := ⟨_, rfl⟩
  have hN2 : N < 256 := by rw [← hN]; exact r1_lt l
  rw [hN] at K1 ⊢
  obtain ⟨l1, hl1⟩ : ∃ l1, l.drop 1 = l1 := ⟨_, rfl⟩
  have HL1 : Hid (l1.length ≤ 1000000) := Lib.hid (by rw [← hl1, List.length_drop]; omega)
  obtain ⟨b1, hb1⟩ : ∃ b1, (bad || decide (l.length < 1)) = b1 := ⟨_, rfl⟩
  rw [hl1, hb1] at K1 ⊢
  have HH := Lib.hid hh
  obtain ⟨ti, hi, hz, hs, hby⟩ := infoE'
  clear hr hN hl1 hb1 hl hh
  go_enter Try.func76, Try.ntmps76
  go_wp2_with fail
  refine K1.out.mono ?_
  rintro e w1 ⟨rfl, Rd1, g1⟩
  have HR1 := Lib.hid Rd1
  have HG1 := Lib.hid g1
  clear Rd1 g1 K1
  go_wp2_with fail
  go_loopg [3, 4, 5, 8] N (fun m v x y i wx => ∃ q : Nat, ∃ A c n es lq bq, q + m = N ∧ i = .int .u64 q ∧ Hid (n = es.length) ∧ v = .slice A n c ∧ n = q ∧ Hid (OwnE wx w.heap.size (.slice A n c) es) ∧ Hid (Rd wx g h lq bq) ∧ Hid (w.grownBy wx (some g)) ∧ Hid (lq.length ≤ 1000000) ∧ Hid (rEs N l1 b1 = (es ++ (rEs m lq bq).1, (rEs m lq bq).2)))
  case atStart => exact ⟨0, none, 0, 0, [], l1, b1, by omega, rfl, Lib.hid rfl, rfl, rfl, Lib.hid (OwnE.nil _ _), HR1, HG1, HL1, Lib.hid rfl⟩
  case round =>
    obtain ⟨q, A, c, n, es, lq, bq, hq, rfl, hne, rfl, hnq, hO, hR, hW, hL, hE⟩ := hrel
    subst hnq
    cases gk with
    | zero =>
      obtain rfl : n = N := by omega
      have i4 : ¬ (n : Int) < (n : Int) := by omega
      clear hq
      go_wp2_with fail
      go_ret
      refine ⟨A, c, es, Lib.hid (by rw [hE.out]; simp [rEs]), by rw [← hne.out]; rfl, by rw [← hne.out]; exact hO.out, ?_, hW.out⟩
      rw [hE.out]
      exact hR.out
    | succ m =>
      have i4 : (n : Int) < (N : Int) := by omega
      have ka := rnum1' g h lq bq wr hR.out
      have u1 := r1_lt lq
      have u2 := r1_lt (lq.drop 1)
      obtain ⟨a, ha⟩ : ∃ a, r1 lq = a := ⟨_, rfl⟩
      obtain ⟨s, hsz⟩ : ∃ s, r1 (lq.drop 1) = s := ⟨_, rfl⟩
      have KB := Lib.hid (fun w hr => rnum1' g h (lq.drop 1) (bq || decide (lq.length < 1)) w hr)
      have KC := Lib.hid (fun w hr hh hl => rbytes1 g h (lq.drop 2) ((bq || decide (lq.length < 1)) || decide ((lq.drop 1).length < 1)) s w hr hh hl)
      rw [List.drop_drop] at KB
      have HX : Hid (rEnt lq = ⟨⟨(rTake s (lq.drop 2)).toArray⟩, (a : Int)⟩ ∧ rRest lq = (lq.drop 2).drop s ∧ rBad bq lq = (((bq || decide (lq.length < 1)) || decide ((lq.drop 1).length < 1)) || decide ((lq.drop 2).length < s))) := Lib.hid (by
        unfold rEnt rRest rBad
        rw [ha, hsz]
        exact ⟨rfl, rfl, rfl⟩)
      rw [ha] at ka u1
      rw [hsz] at u2 KB
      have HL2 : Hid ((lq.drop 2).length ≤ 1000000) := Lib.hid (by rw [List.length_drop]; have := hL.out; omega)
      have HL3 : Hid (((lq.drop 2).drop s).length ≤ 1000000) := Lib.hid (by rw [List.length_drop]; have := HL2.out; omega)
      have KA := Lib.hid ka
      clear ka ha hsz
      have ua : (a : Int) < 256 := by omega
      have us : (s : Int) < 256 := by omega
      go_wp2_with fail
      refine KA.out.mono ?_
      rintro e w2 ⟨rfl, R2, g2⟩
      have HR2 := Lib.hid R2
      have HW2 := Lib.hid (hW.out.trans g2)
      have HO2 := Lib.hid (hO.out.grown HG.out g2)
      clear R2 g2 KA
      go_wp2_with fail
      refine (KB.out _ HR2.out).mono ?_
      rintro e w3 ⟨rfl, R3, g3⟩
      have HR3 := Lib.hid R3
      have HW3 := Lib.hid (HW2.out.trans g3)
      have HO3 := Lib.hid (HO2.out.grown HG.out g3)
      have KC3 := Lib.hid (KC.out _ R3 (Nat.lt_of_lt_of_le HH.out HW3.out.size) HL2.out)
      clear R3 g3 KB KC
      go_wp2_with fail
      refine KC3.out.mono ?_
      rintro e w4 ⟨g', k', c', rfl, D4, R4, g4⟩
      have hstr := str_of D4
      have HW4 := Lib.hid (HW3.out.trans g4)
      have HO4 := Lib.hid (HO3.out.grown HG.out g4)
      have HR4 := Lib.hid R4
      obtain ⟨st, hst⟩ : ∃ st : ByteArray, ⟨(rTake s (lq.drop 2)).toArray⟩ = st := ⟨_, rfl⟩
      rw [hst] at hstr HX
      have H5 := Lib.hid ((Below.refl w4.heap.size w4).alloc (Nat.le_refl _) (.cells #[.string st, .int .i64 (a : Int)] 129))
      have HR5 := Lib.hid (HR4.out.same H5.out (Nat.lt_of_lt_of_le HH.out HW4.out.size))
      have HO5 := Lib.hid (HO4.out.kept H5.out)
      have HW5 := Lib.hid (only_below HW4.out H5.out)
      have RW5 := Lib.hid (Row.new w4 #[.string st, .int .i64 (a : Int)] 129 (0, 0) w4.heap.size rfl (B := w4.heap.size + 1) (Nat.lt_succ_self _))
      clear D4 R4 g4 KC3 hst
      go_wp2_with (at_builtin; refine wpl_append_ents hi hz rfl hs hby rfl (.tmp 16) (.tmp 23) rfl hne.out.symm rfl HO5.out _ 1 _ [⟨st, (a : Int)⟩] rfl rfl _ RW5.out (by omega) HW5.out.size (n + 1) rfl ?_; intro A9 c9 w9 O9 g9)
      have HO9 := Lib.hid O9
      have hlo : ∀ q, (Value.slice A n c).ownBlock = some q → w.heap.size ≤ q := fun q e => (World.ownsRow.lt HO5.out q e).1
      have HW9 : Hid (w.grownBy w9 (some g)) := Lib.hid (grown_beyond HW5.out g9 hlo)
      have HR9 := Lib.hid (HR5.out.beside g9 (Nat.lt_of_lt_of_le HH.out HW5.out.size) (fun e => by have := hlo g e; have := HG.out; omega) (fun e => by have := hlo h e; have := HH.out; omega))
      have HE9 : Hid (rEs N l1 b1 = ((es ++ [⟨st, (a : Int)⟩]) ++ (rEs m (rRest lq) (rBad bq lq)).1, (rEs m (rRest lq) (rBad bq lq)).2)) := Lib.hid (by rw [hE.out, List.append_assoc, ← HX.out.1]; rfl)
      rw [HX.out.2.1, HX.out.2.2] at HE9
      clear O9 g9 hlo
      go_roundg m
      case measure => omega
      case rel => exact ⟨n + 1, A9, c9, n + 1, _, _, _, by omega, by go_num, Lib.hid (by rw [List.length_append, ← hne.out]; rfl), rfl, rfl, HO9, HR9, HW9, HL3, HE9⟩
end Go.Proofs.Ytppodbijdhcclaa

/- What Read of inode answers: the inode of bytes. No condition but that the bytes are there. -/
namespace Go.Proofs.Ytppodbijdhcclaa
open Go.RowKit
def rn2 (l : List UInt8) : Nat := if 2 ≤ l.length then le (l.take 2) else 0
theorem rn2_lt (l : List UInt8) : rn2 l < 65536 := by
  have h := le_lt (l.take 2)
  have h2 : 256 ^ (l.take 2).length ≤ 256 ^ 2 := Nat.pow_le_pow_right (by omega) (by rw [List.length_take]; omega)
  unfold rn2
  split <;> omega
theorem rnum2' (g h : Nat) (l : List UInt8) (bad : Bool) (w : World) (hr : Rd w g h l bad) :
    Calls Try.prog 75 #[.pointer (some ⟨g, 0, none⟩), .int .i64 2] w fun e w' => e = .returned (.int .u64 (rn2 l : Int)) ∧ Rd w' g h (l.drop 2) (bad || decide (l.length < 2)) ∧ w.grownBy w' (some g) := by
  have e1 : wid 2 = 2 := rfl
  by_cases hl : 2 ≤ l.length
  · refine (rnum_yes g h l bad 2 w hr (by rw [e1]; exact hl)).mono ?_
    rintro e w' ⟨rfl, h1, h2⟩
    rw [e1] at h1 ⊢
    rw [decide_eq_false (by omega), Bool.or_false, show rn2 l = le (l.take 2) from if_pos hl]
    exact ⟨rfl, h1, h2⟩
  · refine (rnum_no g h l bad 2 w hr (by rw [e1]; omega)).mono ?_
    rintro e w' ⟨rfl, h1, h2⟩
    rw [show rn2 l = 0 from if_neg hl, decide_eq_true (by omega), Bool.or_true, List.drop_eq_nil_of_le (by omega)]
    exact ⟨rfl, h1, h2⟩
/-- what is read, before it is looked at: the inode, what is left, and whether it was too little -/
def rPre (l : List UInt8) : IN × List UInt8 × Bool :=
  if r1 l = 1 then (⟨1, (rn2 (l.drop 1) : Int), []⟩, (l.drop 1).drop 2, (decide (l.length < 1) || decide ((l.drop 1).length < 2)))
  else if r1 l = 2 then (⟨2, 0, (rEs (r1 (l.drop 1)) ((l.drop 1).drop 1) (decide (l.length < 1) || decide ((l.drop 1).length < 1))).1⟩, (rEs (r1 (l.drop 1)) ((l.drop 1).drop 1) (decide (l.length < 1) || decide ((l.drop 1).length < 1))).2)
  else (⟨(r1 l : Int), 0, []⟩, l.drop 1, decide (l.length < 1))
/-- the inode of bytes -/
def inoR (l : List UInt8) : Option IN := if l.length ≤ 114 ∧ (rPre l).2.2 = false ∧ (rPre l).2.1 = [] ∧ (rPre l).1.ok then some (rPre l).1 else none
def errR (o : Option IN) : Int := if o.isSome then 0 else 11
theorem iret2 {fn : Func} {p u : Tmp} {w : World} {g : Nat} {vs : List Value} (h : fn.results = #[.cell p 66, .tmp u]) (tmps : Array Value) (hB : Blk w g 66 vs) (hn : vs.length = 3) (hp : tmps.getD p undef = .pointer (some ⟨g, 0, none⟩)) :
    (results fn tmps).run Try.prog w = .ok (.tuple #[.agg vs.toArray, tmps.getD u undef]) w :=
  sret2 aggI sizeI h tmps hB (by rw [List.drop_zero, List.take_of_length_le (by omega)]) hn hp
set_option maxRecDepth 100000 in
set_option maxHeartbeats 8000000 in
theorem read_any (v : Value) (l : List UInt8) (w : World) (hv : Bytes w w.heap.size v l) :
    Calls Try.prog 62 #[v] w fun x w' => ∃ n, Hid (n = (inoR l).getD ⟨0, 0, []⟩) ∧ ∃ A c, x = .returned (.tuple #[.agg #[.int .i64 n.k, .int .i64 n.z, .slice A n.es.length c], .int .i64 (errR (inoR l))]) ∧ OwnE w' w.heap.size (.slice A n.es.length c) n.es ∧ Below w.heap.size w w' := by
  obtain ⟨A0, c0, rfl, hc, hm, hr⟩ := id hv
  have HV := Lib.hid hv
  unfold maxLen at hm
  clear hr hv
  have b1 := Lib.hid ((Below.refl w.heap.size w).alloc (Nat.le_refl _) (.cells #[.int .i64 0, .int .i64 0, .slice none 0 0] 66))
  have B1 : Blk (w.alloc (.cells #[.int .i64 0, .int .i64 0, .slice none 0 0] 66)) w.heap.size 66 [.int .i64 0, .int .i64 0, .slice none 0 0] := heap_alloc_new w _
  have HB1 := Lib.hid B1
  have V1 := Lib.hid ((HV.out.below b1.out).more b1.out.size)
  by_cases h114 : l.length ≤ 114
  · have i0 : ¬ (114 : Int) < (l.length : Int) := by omega
    have HL1 : Hid ((l.drop 1).length ≤ 1000000) := Lib.hid (by rw [List.length_drop]; omega)
    have KN := Lib.hid (newreader_any _ _ _ V1.out (by omega))
    have KA := Lib.hid (fun g h w hr => rnum1' g h l false w hr)
    have hk := r1_lt l
    obtain ⟨k, hkk⟩ : ∃ k, r1 l = k := ⟨_, rfl⟩
    obtain ⟨l1, hl1⟩ : ∃ l1, l.drop 1 = l1 := ⟨_, rfl⟩
    obtain ⟨b1', hb1'⟩ : ∃ b, decide (l.length < 1) = b := ⟨_, rfl⟩
    have HP := Lib.hid (show rPre l = rPre l from rfl)
    rw [Bool.false_or] at KA
    have HP1 : Hid (k = 1 → rPre l = (⟨1, (rn2 l1 : Int), []⟩, l1.drop 2, (b1' || decide (l1.length < 2)))) := Lib.hid fun e => by rw [rPre, if_pos (hkk.trans e), hl1, hb1']
    have HP2 : Hid (k = 2 → rPre l = (⟨2, 0, (rEs (r1 l1) (l1.drop 1) (b1' || decide (l1.length < 1))).1⟩, (rEs (r1 l1) (l1.drop 1) (b1' || decide (l1.length < 1))).2)) := Lib.hid fun e => by rw [rPre, if_neg (by omega), if_pos (hkk.trans e), hl1, hb1']
    have HP3 : Hid (k ≠ 1 → k ≠ 2 → rPre l = (⟨(k : Int), 0, []⟩, l1, b1')) := Lib.hid fun e1 e2 => by rw [rPre, if_neg (by omega), if_neg (by omega), hl1, hb1', hkk]
    rw [hkk, hl1, hb1'] at KA
    rw [hkk] at hk
    rw [hl1] at HL1
    clear hkk hl1 hb1' HP B1
    have hk2 : (k : Int) < 256 := by omega
    go_enter Try.func62, Try.ntmps62
    go_wp2_with fail
    refine KN.out.mono ?_
    rintro e w2 ⟨g, h, rfl, hrd, hg, hh, hh2, hb2⟩
    have T2 := Lib.hid (b1.out.trans (hb2.mono b1.out.size))
    have B2 := Lib.hid (HB1.out.after hb2)
    have G2 : Hid (w.heap.size < g ∧ w.heap.size < h) := Lib.hid (by have := b1.out.size; simp only [World.size_alloc] at hg hh; omega)
    have K2 := Lib.hid (KA.out _ _ _ hrd)
    have HH2 := Lib.hid hh2
    clear hrd hg hh hh2 hb2 KN KA HB1 HV V1
    go_wp2_with fail
    refine K2.out.mono ?_
    rintro e w3 ⟨rfl, R3, g3⟩
    have T3 := Lib.hid (T2.out.grown g3 T2.out.size (fun q e => by cases e; have := G2.out; omega))
    have B3 := Lib.hid (B2.out.grown g3 (by have := G2.out; simp; omega))
    have HH3 := Lib.hid (Nat.lt_of_lt_of_le HH2.out g3.size)
    have L3 := Lib.hid (Blk.new w3 66 [.int .i64 0, .int .i64 0, .slice none 0 0])
    have H34 := Lib.hid ((Below.refl w3.heap.size w3).alloc (Nat.le_refl _) (.cells #[.int .i64 0, .int .i64 0, .slice none 0 0] 66))
    have R4 := Lib.hid (R3.same H34.out HH3.out)
    have T4 := Lib.hid (T3.out.alloc T3.out.size (.cells #[.int .i64 0, .int .i64 0, .slice none 0 0] 66))
    have B4 := Lib.hid (B3.out.after H34.out)
    have GG := Lib.hid (And.intro R3.lt (And.intro HH3.out (And.intro B3.out.lt (Nat.le_of_lt (Nat.lt_of_le_of_lt T3.out.size (Nat.lt_succ_self _))))))
    clear R3 g3 T2 B2 K2 T3 B3 HH2
    by_cases e1 : k = 1
    · subst e1
      have HPa := Lib.hid (HP1.out rfl)
      clear HP1 HP2 HP3
      go_wp2_with ((with_reducible refine wpl_seg_store sizeI (.tmp 5) (.tmp 15) rfl rfl L3.out 0 [.int .i64 1, .int .i64 0, .slice none 0 0] rfl (Nat.le_refl _) (by simp [Value.oneCell']) rfl rfl _ rfl ?_); intro w5 N5 g5 e5; have c0 : w5.cell? ⟨w3.heap.size, 0, none⟩ = some (.int .i64 1) := N5.cell 0)
      have N5b : Hid (Blk w5 w3.heap.size 66 [.int .i64 1, .int .i64 0, .slice none 0 0]) := Lib.hid N5
      have B5 := Lib.hid (B4.out.grown g5 (by have := GG.out.2.2.1; simp; omega))
      have T5 := Lib.hid (T4.out.grown g5 T4.out.size (fun q e => by cases e; have := GG.out.2.2.1; omega))
      have R5 := Lib.hid (R4.out.beside g5 (by have := GG.out; simp; omega) (by have := GG.out.1; simp; omega) (by have := GG.out.2.1; simp; omega))
      have Z5 : Hid (w3.heap.size < w5.heap.size) := Lib.hid N5.lt
      obtain ⟨gn, hgn⟩ : ∃ gn, w3.heap.size = gn := ⟨_, rfl⟩
      have GN : Hid (g < gn ∧ h < gn ∧ w.heap.size < gn) := Lib.hid (by have := GG.out; omega)
      rw [hgn] at N5b Z5
      simp only [hgn]
      clear N5 g5 e5 c0 L3 H34 R4 T4 B4 hgn GG HH3
      have hz := rn2_lt l1
      have K6 := Lib.hid (rnum2' g h l1 b1' w5 R5.out)
      obtain ⟨zz, hzz⟩ : ∃ zz, rn2 l1 = zz := ⟨_, rfl⟩
      rw [hzz] at K6 HPa hz
      have uz : (zz : Int) < 65536 := by omega
      have HP1 := HPa
      clear hzz hz HPa
      go_wp2_with fail
      refine K6.out.mono ?_
      rintro e w6 ⟨rfl, R6', g6⟩
      have R6a := Lib.hid R6'
      have N6a := Lib.hid (N5b.out.grown g6 (by have := GN.out.1; simp; omega))
      have B6a := Lib.hid (B5.out.grown g6 (by have := G2.out; simp; omega))
      have T6a := Lib.hid (T5.out.grown g6 T5.out.size (fun q e => by cases e; have := G2.out; omega))
      have H6 : Hid (h < w6.heap.size) := Lib.hid (by have := GN.out; have := Z5.out; have := g6.size; omega)
      clear R6' g6 K6 N5b B5 T5 R5 Z5
      have c1 : w6.cell? ⟨gn, 1, none⟩ = some (.int .i64 0) := N6a.out.cell 1
      have f1 := N6a.out.free 1
      have gs : w6.grownBy (w6.setCell ⟨gn, 1, none⟩ (.int .i64 (zz : Int))) (some gn) := only_set w6 ⟨gn, 1, none⟩ (.int .i64 (zz : Int))
      have N6 : Hid (Blk (w6.setCell ⟨gn, 1, none⟩ (.int .i64 (zz : Int))) gn 66 [.int .i64 1, .int .i64 (zz : Int), .slice none 0 0]) := Lib.hid (N6a.out.set 1 (.int .i64 (zz : Int)))
      have B6 := Lib.hid (B6a.out.grown gs (by have := GN.out.2.2; simp; omega))
      have T6 := Lib.hid (T6a.out.grown gs T6a.out.size (fun q e => by cases e; have := GN.out.2.2; omega))
      have R6 := Lib.hid (R6a.out.beside gs H6.out (by have := GN.out.1; simp; omega) (by have := GN.out.2.1; simp; omega))
      have E6 := Lib.hid (OwnE.nil (w6.setCell ⟨gn, 1, none⟩ (.int .i64 (zz : Int))) w.heap.size)
      have hne : Hid ((Value.slice none 0 0).ownBlock ≠ some w.heap.size) := Lib.hid (by simp [Value.ownBlock])
      clear gs R6a N6a B6a T6a
      have HRP := Lib.hid (show rPre l = (⟨1, (zz : Int), []⟩, l1.drop 2, (b1' || decide (l1.length < 2))) from HP1.out)
      have KB := Lib.hid (bad_any g h (l1.drop 2) ((b1' || decide (l1.length < 2))) _ R6.out)
      have KL := Lib.hid (left_any g h (l1.drop 2) ((b1' || decide (l1.length < 2))) _ R6.out)
      obtain ⟨bq, hbq⟩ : ∃ bq, ((b1' || decide (l1.length < 2))) = bq := ⟨_, rfl⟩
      obtain ⟨nq, hnq⟩ : ∃ nq, (l1.drop 2).length = nq := ⟨_, rfl⟩
      rw [hbq] at KB HRP
      rw [hnq] at KL
      have HNQ := Lib.hid hnq
      clear hbq hnq R6
      cases bq with
      | true =>
        have HI : Hid (inoR l = none) := Lib.hid (by unfold inoR; rw [HRP.out]; exact if_neg (fun h => by cases h.2.1))
        clear HNQ KL HRP
        go_wp2_with fail
        generalize w6.setCell ⟨gn, 1, none⟩ (.int .i64 (zz : Int)) = W6 at B6 N6 T6 E6 KB ⊢
        clear c1 f1 uz
        refine KB.out.mono ?_
        rintro e w7 ⟨rfl, rfl⟩
        go_wp2_with ((with_reducible refine wpl_seg_store sizeI (.tmp 2) (.tmp 41) rfl rfl B6.out 0 [.int .i64 0, .int .i64 0, .slice none 0 0] rfl (Nat.le_refl _) (by simp [Value.oneCell']) rfl rfl _ rfl ?_); intro w10 B10 g10 e10)
        refine bodyPost_ret (iret2 rfl _ B10 rfl rfl) rfl ?_
        exact ⟨⟨0, 0, []⟩, Lib.hid (by rw [HI.out]; rfl), none, 0, by rw [HI.out]; rfl, OwnE.nil _ _, T6.out.grown g10 T6.out.size (fun k e => by cases e; exact Nat.le_refl _)⟩
      | false =>
        by_cases hq0 : nq = 0
        · subst hq0
          have KC := Lib.hid (check_any ⟨1, (zz : Int), []⟩ _ _ E6.out.ents)
          obtain ⟨C, hC⟩ : ∃ C : Int, (if (IN.ok ⟨1, (zz : Int), []⟩) then (0 : Int) else 1) = C := ⟨_, rfl⟩
          rw [hC] at KC
          have HC := Lib.hid hC
          clear hC
          have HNS := True.intro
          have E6b := Lib.hid (E6.out)
          go_wp2_with fail
          generalize w6.setCell ⟨gn, 1, none⟩ (.int .i64 (zz : Int)) = W6 at B6 N6 T6 E6 E6b KB KL KC ⊢
          clear c1 f1 uz
          refine KB.out.mono ?_
          rintro e w7 ⟨rfl, rfl⟩
          go_wp2_with fail
          refine KL.out.mono ?_
          rintro e w8 ⟨rfl, rfl⟩
          go_wp2_with (with_reducible refine wpl_seg_load aggI sizeI (.tmp 5) rfl rfl N6.out 0 [.int .i64 1, .int .i64 (zz : Int), .slice none 0 0] rfl rfl rfl ?_)
          have KC2 := KC.out
          refine KC2.mono ?_
          clear KC2
          rintro e w9 ⟨rfl, b9⟩
          have T9 := Lib.hid (T6.out.trans (b9.mono T6.out.size))
          have N9 := Lib.hid (N6.out.after b9)
          have B9 := Lib.hid (B6.out.after b9)
          have E9 := Lib.hid (E6b.out.kept b9)
          clear b9 N6 E6 E6b B6 T6 KB KL
          by_cases hok : (IN.ok ⟨1, (zz : Int), []⟩)
          · obtain rfl : C = 0 := by rw [← HC.out]; exact if_pos hok
            have HI : Hid (inoR l = some ⟨1, (zz : Int), []⟩) := Lib.hid (by
              unfold inoR
              rw [HRP.out]
              refine if_pos ⟨h114, rfl, List.eq_nil_of_length_eq_zero HNQ.out, hok⟩)
            clear hok
            go_wp2_with (first
              | (with_reducible refine wpl_seg_load aggI sizeI (.tmp 5) rfl rfl N9.out 0 [.int .i64 1, .int .i64 (zz : Int), .slice none 0 0] rfl rfl rfl ?_)
              | ((with_reducible refine wpl_seg_store sizeI (.tmp 2) (.tmp 42) rfl rfl B9.out 0 [.int .i64 1, .int .i64 (zz : Int), .slice none 0 0] rfl (Nat.le_refl _) (by simp [Value.oneCell']) rfl rfl _ rfl ?_); intro w10 B10 g10 e10))
            refine bodyPost_ret (iret2 rfl _ B10 rfl rfl) rfl ?_
            refine ⟨⟨1, (zz : Int), []⟩, Lib.hid (by rw [HI.out]; rfl), _, _, by rw [HI.out]; exact congrArg _ (by rfl), E9.out.kept2 g10 hne.out, T9.out.grown g10 T9.out.size (fun k e => by cases e; exact Nat.le_refl _)⟩
          · obtain rfl : C = 1 := by rw [← HC.out]; exact if_neg hok
            have HI : Hid (inoR l = none) := Lib.hid (by
              unfold inoR
              rw [HRP.out]
              exact if_neg fun h => hok h.2.2.2)
            clear hok
            go_wp2_with ((with_reducible refine wpl_seg_store sizeI (.tmp 2) (.tmp 41) rfl rfl B9.out 0 [.int .i64 0, .int .i64 0, .slice none 0 0] rfl (Nat.le_refl _) (by simp [Value.oneCell']) rfl rfl _ rfl ?_); intro w10 B10 g10 e10)
            refine bodyPost_ret (iret2 rfl _ B10 rfl rfl) rfl ?_
            exact ⟨⟨0, 0, []⟩, Lib.hid (by rw [HI.out]; rfl), none, 0, by rw [HI.out]; rfl, OwnE.nil _ _, T9.out.grown g10 T9.out.size (fun k e => by cases e; exact Nat.le_refl _)⟩
        · have HI : Hid (inoR l = none) := Lib.hid (by unfold inoR; rw [HRP.out]; exact if_neg (fun h => by have h2 : (l1.drop 2) = [] := h.2.2.1; have := HNQ.out; rw [h2] at this; exact hq0 this.symm))
          have q0 : (0 : Int) < (nq : Int) := by omega
          clear hq0 HNQ HRP
          go_wp2_with fail
          generalize w6.setCell ⟨gn, 1, none⟩ (.int .i64 (zz : Int)) = W6 at B6 N6 T6 E6 KB KL ⊢
          clear c1 f1 uz
          refine KB.out.mono ?_
          rintro e w7 ⟨rfl, rfl⟩
          go_wp2_with fail
          refine KL.out.mono ?_
          rintro e w8 ⟨rfl, rfl⟩
          go_wp2_with ((with_reducible refine wpl_seg_store sizeI (.tmp 2) (.tmp 41) rfl rfl B6.out 0 [.int .i64 0, .int .i64 0, .slice none 0 0] rfl (Nat.le_refl _) (by simp [Value.oneCell']) rfl rfl _ rfl ?_); intro w10 B10 g10 e10)
          refine bodyPost_ret (iret2 rfl _ B10 rfl rfl) rfl ?_
          exact ⟨⟨0, 0, []⟩, Lib.hid (by rw [HI.out]; rfl), none, 0, by rw [HI.out]; rfl, OwnE.nil _ _, T6.out.grown g10 T6.out.size (fun k e => by cases e; exact Nat.le_refl _)⟩
    · by_cases e2 : k = 2
      · subst e2
        have HPa := Lib.hid (HP2.out rfl)
        clear HP1 HP2 HP3
        go_wp2_with ((with_reducible refine wpl_seg_store sizeI (.tmp 5) (.tmp 15) rfl rfl L3.out 0 [.int .i64 2, .int .i64 0, .slice none 0 0] rfl (Nat.le_refl _) (by simp [Value.oneCell']) rfl rfl _ rfl ?_); intro w5 N5 g5 e5; have c0 : w5.cell? ⟨w3.heap.size, 0, none⟩ = some (.int .i64 2) := N5.cell 0)
        have N5b : Hid (Blk w5 w3.heap.size 66 [.int .i64 2, .int .i64 0, .slice none 0 0]) := Lib.hid N5
        have B5 := Lib.hid (B4.out.grown g5 (by have := GG.out.2.2.1; simp; omega))
        have T5 := Lib.hid (T4.out.grown g5 T4.out.size (fun q e => by cases e; have := GG.out.2.2.1; omega))
        have R5 := Lib.hid (R4.out.beside g5 (by have := GG.out; simp; omega) (by have := GG.out.1; simp; omega) (by have := GG.out.2.1; simp; omega))
        have Z5 : Hid (w3.heap.size < w5.heap.size) := Lib.hid N5.lt
        obtain ⟨gn, hgn⟩ : ∃ gn, w3.heap.size = gn := ⟨_, rfl⟩
        have GN : Hid (g < gn ∧ h < gn ∧ w.heap.size < gn) := Lib.hid (by have := GG.out; omega)
        rw [hgn] at N5b Z5
        simp only [hgn]
        clear N5 g5 e5 c0 L3 H34 R4 T4 B4 hgn GG HH3
        have K6 := Lib.hid (readEntries_any g h l1 b1' w5 R5.out (by have := GN.out; have := Z5.out; omega) HL1.out)
        obtain ⟨rr, hrr⟩ : ∃ rr, rEs (r1 l1) (l1.drop 1) (b1' || decide (l1.length < 1)) = rr := ⟨_, rfl⟩
        rw [hrr] at K6 HPa
        obtain ⟨es0, lq, bd⟩ := rr
        have HP2 := HPa
        clear hrr HPa
        go_wp2_with fail
        refine K6.out.mono ?_
        rintro e w6 ⟨A, c, es, hes, rfl, O6, R6', g6⟩
        obtain rfl : es = es0 := hes.out
        obtain ⟨m, hm6⟩ : ∃ m, es.length = m := ⟨_, rfl⟩
        rw [hm6] at O6 ⊢
        have HM := Lib.hid hm6
        have R6a := Lib.hid R6'
        have N6a := Lib.hid (N5b.out.grown g6 (by have := GN.out.1; simp; omega))
        have B6a := Lib.hid (B5.out.grown g6 (by have := G2.out; simp; omega))
        have T6a := Lib.hid (T5.out.grown g6 T5.out.size (fun q e => by cases e; have := G2.out; omega))
        have H6 : Hid (h < w6.heap.size) := Lib.hid (by have := GN.out; have := Z5.out; have := g6.size; omega)
        have hlo : Hid (∀ q, (Value.slice A m c).ownBlock = some q → w5.heap.size ≤ q) := Lib.hid fun q e => (World.ownsRow.lt O6 q e).1
        have O6a := Lib.hid O6
        clear R6' g6 K6 N5b B5 R5 O6 hes hm6
        have c1 : w6.cell? ⟨gn, 2, none⟩ = some (.slice none 0 0) := N6a.out.cell 2
        have f1 := N6a.out.free 2
        have gs : w6.grownBy (w6.setCell ⟨gn, 2, none⟩ (.slice A m c)) (some gn) := only_set w6 ⟨gn, 2, none⟩ (.slice A m c)
        have N6 : Hid (Blk (w6.setCell ⟨gn, 2, none⟩ (.slice A m c)) gn 66 [.int .i64 2, .int .i64 0, .slice A m c]) := Lib.hid (N6a.out.set 2 (.slice A m c))
        have B6 := Lib.hid (B6a.out.grown gs (by have := GN.out.2.2; simp; omega))
        have T6 := Lib.hid (T6a.out.grown gs T6a.out.size (fun q e => by cases e; have := GN.out.2.2; omega))
        have R6 := Lib.hid (R6a.out.beside gs H6.out (by have := GN.out.1; simp; omega) (by have := GN.out.2.1; simp; omega))
        have E6 := Lib.hid ((O6a.out.kept2 gs (fun e => by have := hlo.out _ e; have := Z5.out; omega)).lower T5.out.size)
        have hne : Hid ((Value.slice A m c).ownBlock ≠ some w.heap.size) := Lib.hid (fun e => by have := hlo.out _ e; have := Z5.out; have := GN.out; omega)
        clear gs R6a N6a B6a T6a O6a hlo Z5 T5
        have HRP := Lib.hid (show rPre l = (⟨2, 0, es⟩, lq, bd) from HP2.out)
        have KB := Lib.hid (bad_any g h (lq) (bd) _ R6.out)
        have KL := Lib.hid (left_any g h (lq) (bd) _ R6.out)
        obtain ⟨bq, hbq⟩ : ∃ bq, (bd) = bq := ⟨_, rfl⟩
        obtain ⟨nq, hnq⟩ : ∃ nq, (lq).length = nq := ⟨_, rfl⟩
        rw [hbq] at KB HRP
        rw [hnq] at KL
        have HNQ := Lib.hid hnq
        clear hbq hnq R6
        cases bq with
        | true =>
          have HI : Hid (inoR l = none) := Lib.hid (by unfold inoR; rw [HRP.out]; exact if_neg (fun h => by cases h.2.1))
          clear HNQ KL HRP
          go_wp2_with fail
          generalize w6.setCell ⟨gn, 2, none⟩ (.slice A m c) = W6 at B6 N6 T6 E6 KB ⊢
          refine KB.out.mono ?_
          rintro e w7 ⟨rfl, rfl⟩
          go_wp2_with ((with_reducible refine wpl_seg_store sizeI (.tmp 2) (.tmp 41) rfl rfl B6.out 0 [.int .i64 0, .int .i64 0, .slice none 0 0] rfl (Nat.le_refl _) (by simp [Value.oneCell']) rfl rfl _ rfl ?_); intro w10 B10 g10 e10)
          refine bodyPost_ret (iret2 rfl _ B10 rfl rfl) rfl ?_
          exact ⟨⟨0, 0, []⟩, Lib.hid (by rw [HI.out]; rfl), none, 0, by rw [HI.out]; rfl, OwnE.nil _ _, T6.out.grown g10 T6.out.size (fun k e => by cases e; exact Nat.le_refl _)⟩
        | false =>
          by_cases hq0 : nq = 0
          · subst hq0
            have KC := Lib.hid (check_any ⟨2, 0, es⟩ _ _ E6.out.ents)
            obtain ⟨C, hC⟩ : ∃ C : Int, (if (IN.ok ⟨2, 0, es⟩) then (0 : Int) else 1) = C := ⟨_, rfl⟩
            rw [hC] at KC
            have HC := Lib.hid hC
            clear hC
            have HNS := HM.out
            have E6b := Lib.hid (E6.out)
            go_wp2_with fail
            generalize w6.setCell ⟨gn, 2, none⟩ (.slice A m c) = W6 at B6 N6 T6 E6 E6b KB KL KC ⊢
            refine KB.out.mono ?_
            rintro e w7 ⟨rfl, rfl⟩
            go_wp2_with fail
            refine KL.out.mono ?_
            rintro e w8 ⟨rfl, rfl⟩
            go_wp2_with (with_reducible refine wpl_seg_load aggI sizeI (.tmp 5) rfl rfl N6.out 0 [.int .i64 2, .int .i64 0, .slice A m c] rfl rfl rfl ?_)
            have KC2 := KC.out
            refine KC2.mono ?_
            clear KC2
            rintro e w9 ⟨rfl, b9⟩
            have T9 := Lib.hid (T6.out.trans (b9.mono T6.out.size))
            have N9 := Lib.hid (N6.out.after b9)
            have B9 := Lib.hid (B6.out.after b9)
            have E9 := Lib.hid (E6b.out.kept b9)
            clear b9 N6 E6 E6b B6 T6 KB KL
            by_cases hok : (IN.ok ⟨2, 0, es⟩)
            · obtain rfl : C = 0 := by rw [← HC.out]; exact if_pos hok
              have HI : Hid (inoR l = some ⟨2, 0, es⟩) := Lib.hid (by
                unfold inoR
                rw [HRP.out]
                refine if_pos ⟨h114, rfl, List.eq_nil_of_length_eq_zero HNQ.out, hok⟩)
              clear hok
              go_wp2_with (first
                | (with_reducible refine wpl_seg_load aggI sizeI (.tmp 5) rfl rfl N9.out 0 [.int .i64 2, .int .i64 0, .slice A m c] rfl rfl rfl ?_)
                | ((with_reducible refine wpl_seg_store sizeI (.tmp 2) (.tmp 42) rfl rfl B9.out 0 [.int .i64 2, .int .i64 0, .slice A m c] rfl (Nat.le_refl _) (by simp [Value.oneCell']) rfl rfl _ rfl ?_); intro w10 B10 g10 e10))
              refine bodyPost_ret (iret2 rfl _ B10 rfl rfl) rfl ?_
              refine ⟨⟨2, 0, es⟩, Lib.hid (by rw [HI.out]; rfl), _, _, by rw [HI.out]; exact congrArg _ (by have hm := HM.out; subst hm; rfl), by have hm := HM.out; subst hm; exact E9.out.kept2 g10 hne.out, T9.out.grown g10 T9.out.size (fun k e => by cases e; exact Nat.le_refl _)⟩
            · obtain rfl : C = 1 := by rw [← HC.out]; exact if_neg hok
              have HI : Hid (inoR l = none) := Lib.hid (by
                unfold inoR
                rw [HRP.out]
                exact if_neg fun h => hok h.2.2.2)
              clear hok
              go_wp2_with ((with_reducible refine wpl_seg_store sizeI (.tmp 2) (.tmp 41) rfl rfl B9.out 0 [.int .i64 0, .int .i64 0, .slice none 0 0] rfl (Nat.le_refl _) (by simp [Value.oneCell']) rfl rfl _ rfl ?_); intro w10 B10 g10 e10)
              refine bodyPost_ret (iret2 rfl _ B10 rfl rfl) rfl ?_
              exact ⟨⟨0, 0, []⟩, Lib.hid (by rw [HI.out]; rfl), none, 0, by rw [HI.out]; rfl, OwnE.nil _ _, T9.out.grown g10 T9.out.size (fun k e => by cases e; exact Nat.le_refl _)⟩
          · have HI : Hid (inoR l = none) := Lib.hid (by unfold inoR; rw [HRP.out]; exact if_neg (fun h => by have h2 : (lq) = [] := h.2.2.1; have := HNQ.out; rw [h2] at this; exact hq0 this.symm))
            have q0 : (0 : Int) < (nq : Int) := by omega
            clear hq0 HNQ HRP
            go_wp2_with fail
            generalize w6.setCell ⟨gn, 2, none⟩ (.slice A m c) = W6 at B6 N6 T6 E6 KB KL ⊢
            refine KB.out.mono ?_
            rintro e w7 ⟨rfl, rfl⟩
            go_wp2_with fail
            refine KL.out.mono ?_
            rintro e w8 ⟨rfl, rfl⟩
            go_wp2_with ((with_reducible refine wpl_seg_store sizeI (.tmp 2) (.tmp 41) rfl rfl B6.out 0 [.int .i64 0, .int .i64 0, .slice none 0 0] rfl (Nat.le_refl _) (by simp [Value.oneCell']) rfl rfl _ rfl ?_); intro w10 B10 g10 e10)
            refine bodyPost_ret (iret2 rfl _ B10 rfl rfl) rfl ?_
            exact ⟨⟨0, 0, []⟩, Lib.hid (by rw [HI.out]; rfl), none, 0, by rw [HI.out]; rfl, OwnE.nil _ _, T6.out.grown g10 T6.out.size (fun k e => by cases e; exact Nat.le_refl _)⟩
      · have HP3b := Lib.hid (HP3.out e1 e2)
        clear HP1 HP2 HP3
        have HP3 := HP3b
        have i1 : ((k : Int) == 1) = false := by rw [beq_eq_false_iff_ne]; omega
        have i2 : ((k : Int) == 2) = false := by rw [beq_eq_false_iff_ne]; omega
        clear e1 e2 HP3b
        go_wp2_with ((with_reducible refine wpl_seg_store sizeI (.tmp 5) (.tmp 15) rfl rfl L3.out 0 [.int .i64 (k : Int), .int .i64 0, .slice none 0 0] rfl (Nat.le_refl _) (by simp [Value.oneCell']) rfl rfl _ rfl ?_); intro w5 N5 g5 e5; have c0 : w5.cell? ⟨w3.heap.size, 0, none⟩ = some (.int .i64 (k : Int)) := N5.cell 0)
        have N5b : Hid (Blk w5 w3.heap.size 66 [.int .i64 (k : Int), .int .i64 0, .slice none 0 0]) := Lib.hid N5
        have B5 := Lib.hid (B4.out.grown g5 (by have := GG.out.2.2.1; simp; omega))
        have T5 := Lib.hid (T4.out.grown g5 T4.out.size (fun q e => by cases e; have := GG.out.2.2.1; omega))
        have R5 := Lib.hid (R4.out.beside g5 (by have := GG.out; simp; omega) (by have := GG.out.1; simp; omega) (by have := GG.out.2.1; simp; omega))
        have Z5 : Hid (w3.heap.size < w5.heap.size) := Lib.hid N5.lt
        obtain ⟨gn, hgn⟩ : ∃ gn, w3.heap.size = gn := ⟨_, rfl⟩
        have GN : Hid (g < gn ∧ h < gn ∧ w.heap.size < gn) := Lib.hid (by have := GG.out; omega)
        rw [hgn] at N5b Z5
        simp only [hgn]
        clear N5 g5 e5 c0 L3 H34 R4 T4 B4 hgn GG HH3
        have N6 := N5b
        have B6 := B5
        have T6 := T5
        have R6 := R5
        have E6 := Lib.hid (OwnE.nil w5 w.heap.size)
        have hne : Hid ((Value.slice none 0 0).ownBlock ≠ some w.heap.size) := Lib.hid (by simp [Value.ownBlock])
        clear N5b B5 T5 R5
        have HRP := Lib.hid (show rPre l = (⟨(k : Int), 0, []⟩, l1, b1') from HP3.out)
        have KB := Lib.hid (bad_any g h (l1) (b1') _ R6.out)
        have KL := Lib.hid (left_any g h (l1) (b1') _ R6.out)
        obtain ⟨bq, hbq⟩ : ∃ bq, (b1') = bq := ⟨_, rfl⟩
        obtain ⟨nq, hnq⟩ : ∃ nq, (l1).length = nq := ⟨_, rfl⟩
        rw [hbq] at KB HRP
        rw [hnq] at KL
        have HNQ := Lib.hid hnq
        clear hbq hnq R6
        cases bq with
        | true =>
          have HI : Hid (inoR l = none) := Lib.hid (by unfold inoR; rw [HRP.out]; exact if_neg (fun h => by cases h.2.1))
          clear HNQ KL HRP
          go_wp2_with fail
          refine KB.out.mono ?_
          rintro e w7 ⟨rfl, rfl⟩
          go_wp2_with ((with_reducible refine wpl_seg_store sizeI (.tmp 2) (.tmp 41) rfl rfl B6.out 0 [.int .i64 0, .int .i64 0, .slice none 0 0] rfl (Nat.le_refl _) (by simp [Value.oneCell']) rfl rfl _ rfl ?_); intro w10 B10 g10 e10)
          refine bodyPost_ret (iret2 rfl _ B10 rfl rfl) rfl ?_
          exact ⟨⟨0, 0, []⟩, Lib.hid (by rw [HI.out]; rfl), none, 0, by rw [HI.out]; rfl, OwnE.nil _ _, T6.out.grown g10 T6.out.size (fun k e => by cases e; exact Nat.le_refl _)⟩
        | false =>
          by_cases hq0 : nq = 0
          · subst hq0
            have KC := Lib.hid (check_any ⟨(k : Int), 0, []⟩ _ _ E6.out.ents)
            obtain ⟨C, hC⟩ : ∃ C : Int, (if (IN.ok ⟨(k : Int), 0, []⟩) then (0 : Int) else 1) = C := ⟨_, rfl⟩
            rw [hC] at KC
            have HC := Lib.hid hC
            clear hC
            have HNS := True.intro
            have E6b := Lib.hid (E6.out)
            go_wp2_with fail
            refine KB.out.mono ?_
            rintro e w7 ⟨rfl, rfl⟩
            go_wp2_with fail
            refine KL.out.mono ?_
            rintro e w8 ⟨rfl, rfl⟩
            go_wp2_with (with_reducible refine wpl_seg_load aggI sizeI (.tmp 5) rfl rfl N6.out 0 [.int .i64 (k : Int), .int .i64 0, .slice none 0 0] rfl rfl rfl ?_)
            have KC2 := KC.out
            refine KC2.mono ?_
            clear KC2
            rintro e w9 ⟨rfl, b9⟩
            have T9 := Lib.hid (T6.out.trans (b9.mono T6.out.size))
            have N9 := Lib.hid (N6.out.after b9)
            have B9 := Lib.hid (B6.out.after b9)
            have E9 := Lib.hid (E6b.out.kept b9)
            clear b9 N6 E6 E6b B6 T6 KB KL
            by_cases hok : (IN.ok ⟨(k : Int), 0, []⟩)
            · obtain rfl : C = 0 := by rw [← HC.out]; exact if_pos hok
              have HI : Hid (inoR l = some ⟨(k : Int), 0, []⟩) := Lib.hid (by
                unfold inoR
                rw [HRP.out]
                refine if_pos ⟨h114, rfl, List.eq_nil_of_length_eq_zero HNQ.out, hok⟩)
              clear hok
              go_wp2_with (first
                | (with_reducible refine wpl_seg_load aggI sizeI (.tmp 5) rfl rfl N9.out 0 [.int .i64 (k : Int), .int .i64 0, .slice none 0 0] rfl rfl rfl ?_)
                | ((with_reducible refine wpl_seg_store sizeI (.tmp 2) (.tmp 42) rfl rfl B9.out 0 [.int .i64 (k : Int), .int .i64 0, .slice none 0 0] rfl (Nat.le_refl _) (by simp [Value.oneCell']) rfl rfl _ rfl ?_); intro w10 B10 g10 e10))
              refine bodyPost_ret (iret2 rfl _ B10 rfl rfl) rfl ?_
              refine ⟨⟨(k : Int), 0, []⟩, Lib.hid (by rw [HI.out]; rfl), _, _, by rw [HI.out]; exact congrArg _ (by rfl), E9.out.kept2 g10 hne.out, T9.out.grown g10 T9.out.size (fun k e => by cases e; exact Nat.le_refl _)⟩
            · obtain rfl : C = 1 := by rw [← HC.out]; exact if_neg hok
              have HI : Hid (inoR l = none) := Lib.hid (by
                unfold inoR
                rw [HRP.out]
                exact if_neg fun h => hok h.2.2.2)
              clear hok
              go_wp2_with ((with_reducible refine wpl_seg_store sizeI (.tmp 2) (.tmp 41) rfl rfl B9.out 0 [.int .i64 0, .int .i64 0, .slice none 0 0] rfl (Nat.le_refl _) (by simp [Value.oneCell']) rfl rfl _ rfl ?_); intro w10 B10 g10 e10)
              refine bodyPost_ret (iret2 rfl _ B10 rfl rfl) rfl ?_
              exact ⟨⟨0, 0, []⟩, Lib.hid (by rw [HI.out]; rfl), none, 0, by rw [HI.out]; rfl, OwnE.nil _ _, T9.out.grown g10 T9.out.size (fun k e => by cases e; exact Nat.le_refl _)⟩
          · have HI : Hid (inoR l = none) := Lib.hid (by unfold inoR; rw [HRP.out]; exact if_neg (fun h => by have h2 : (l1) = [] := h.2.2.1; have := HNQ.out; rw [h2] at this; exact hq0 this.symm))
            have q0 : (0 : Int) < (nq : Int) := by omega
            clear hq0 HNQ HRP
            go_wp2_with fail
            refine KB.out.mono ?_
            rintro e w7 ⟨rfl, rfl⟩
            go_wp2_with fail
            refine KL.out.mono ?_
            rintro e w8 ⟨rfl, rfl⟩
            go_wp2_with ((with_reducible refine wpl_seg_store sizeI (.tmp 2) (.tmp 41) rfl rfl B6.out 0 [.int .i64 0, .int .i64 0, .slice none 0 0] rfl (Nat.le_refl _) (by simp [Value.oneCell']) rfl rfl _ rfl ?_); intro w10 B10 g10 e10)
            refine bodyPost_ret (iret2 rfl _ B10 rfl rfl) rfl ?_
            exact ⟨⟨0, 0, []⟩, Lib.hid (by rw [HI.out]; rfl), none, 0, by rw [HI.out]; rfl, OwnE.nil _ _, T6.out.grown g10 T6.out.size (fun k e => by cases e; exact Nat.le_refl _)⟩
  · have i0 : (114 : Int) < (l.length : Int) := by omega
    have HI : Hid (inoR l = none) := Lib.hid (if_neg fun h => h114 h.1)
    clear h114
    go_enter Try.func62, Try.ntmps62
    go_wp2_with ((with_reducible refine wpl_seg_store sizeI (.tmp 2) (.tmp 9) rfl rfl HB1.out 0 [.int .i64 0, .int .i64 0, .slice none 0 0] rfl (Nat.le_refl _) (by simp [Value.oneCell']) rfl rfl _ rfl ?_); intro w10 B10 g10 e10)
    refine bodyPost_ret (iret2 rfl _ B10 rfl rfl) rfl ?_
    exact ⟨⟨0, 0, []⟩, Lib.hid (by rw [HI.out]; rfl), none, 0, by rw [HI.out]; rfl, OwnE.nil _ _, b1.out.grown g10 b1.out.size (fun k e => by cases e; exact Nat.le_refl _)⟩
end Go.Proofs.Ytppodbijdhcclaa

/- What Write of inode answers: an inode's bytes. No condition but that the entries are there. -/
namespace Go.Proofs.Ytppodbijdhcclaa
open Go.RowKit Go.Shelf
def ebytes (e : EN) : List UInt8 := [e.i.toNat, e.n.size].flatMap (numB (wid 1)) ++ e.n.data.toList
def IN.bytes (n : IN) : List UInt8 := if n.k = 1 then numB 1 1 ++ numB 2 n.z.toNat else numB 1 2 ++ (numB 1 n.es.length ++ n.es.flatMap ebytes)
theorem partTy : OneCell Try.prog 141 44 (.slice none 0 0) 24 := OneCell.mk' Try.underlying141 (by kernel_rfl) rfl
theorem ebytes_length {e : EN} (h : okE e = true) : (ebytes e).length ≤ 14 := by
  unfold okE at h
  simp only [Bool.and_eq_true] at h
  have h1 := (of_decide_eq_true h.1).2.1
  unfold ebytes
  simp only [List.flatMap_cons, List.flatMap_nil, List.append_nil, List.length_append, numB_length]
  show 1 + 1 + _ ≤ 14
  omega
theorem flat_bytes_le : ∀ (es : List EN), (∀ e ∈ es, okE e = true) → (es.flatMap ebytes).length ≤ 14 * es.length
  | [], _ => by simp
  | e :: es, h => by
    have h1 := ebytes_length (h e (by simp))
    have h2 := flat_bytes_le es fun x hx => h x (by simp [hx])
    simp only [List.flatMap_cons, List.length_append, List.length_cons]
    omega
theorem good_all {es : List EN} (h : GoodTo es es.length) : ∀ e ∈ es, okE e = true := fun e he => by
  obtain ⟨j, hj⟩ := List.mem_iff_getElem?.1 he
  have hl := get_lt hj
  have h1 := (h j hl).1
  rw [atE_get hl] at hj
  rw [← Option.some.inj hj]
  exact h1
theorem Bytes.toS {w : World} {B : Nat} {v : Value} {l : List UInt8} (h : Bytes w B v l) : BytesS w (fun b => b < B) v l := by
  obtain ⟨A, c, e, h1, h2, h3⟩ := h
  exact ⟨A, c, e, h1, h2, h3⟩
theorem Each.toS {w : World} {B : Nat} {vs : List Value} {L : List (List UInt8)} (h : Each w B vs L) : EachS w (fun b => b < B) vs L :=
  ⟨h.1, fun i v hv => by obtain ⟨l, hl, hb⟩ := h.2 i v hv; exact ⟨l, hl, hb.toS⟩⟩
theorem World.alloc_heap_old {w : World} {o : Obj} {k : Nat} (h : k < w.heap.size) : (w.alloc o).heap[k]? = w.heap[k]? := ((Below.refl w.heap.size w).alloc (Nat.le_refl _) o).block k h
theorem each_next {wr X3 X4 w9 : World} {v6 v9 x y : Value} {vs : List Value} {L : List (List UInt8)} {p q : List UInt8} {B8 : Nat} (hE : EachS wr (fun b => b < wr.heap.size ∧ v6.ownBlock ≠ some b) vs L) (hW : Below wr.heap.size wr X3)
    (hX : BytesS X3 (fun b => B8 ≤ b ∧ b < X3.heap.size) x p) (hY : BytesS X3 (fun b => B8 ≤ b ∧ b < X3.heap.size) y q) (hv6 : ∀ k, v6.ownBlock = some k → k < wr.heap.size) (h8 : wr.heap.size ≤ B8) (h4 : Below X3.heap.size X3 X4)
    (g : X4.grownBy w9 v6.ownBlock) (e : v9.ownBlock = v6.ownBlock ∨ v9.ownBlock = some X4.heap.size) : EachS w9 (fun b => b < w9.heap.size ∧ v9.ownBlock ≠ some b) (vs ++ [x, y]) (L ++ [p, q]) := by
  have new : ∀ b, B8 ≤ b ∧ b < X3.heap.size → (b < X3.heap.size ∧ v6.ownBlock ≠ some b) ∧ X3.heap[b]? = X3.heap[b]? := fun b hb => ⟨⟨hb.2, fun e => by have := hv6 b e; omega⟩, rfl⟩
  have h1 := ((hE.keep (w' := X3) (S' := fun b => b < X3.heap.size ∧ v6.ownBlock ≠ some b) fun b hb => ⟨⟨Nat.lt_of_lt_of_le hb.1 hW.size, hb.2⟩, hW.block b hb.1⟩).snoc (hX.keep new)).snoc (hY.keep new)
  rw [show vs ++ [x] ++ [y] = vs ++ [x, y] by simp, show L ++ [p] ++ [q] = L ++ [p, q] by simp] at h1
  refine h1.keep fun b hb => ⟨⟨Nat.lt_of_lt_of_le hb.1 (Nat.le_trans h4.size g.size), fun e' => ?_⟩, ?_⟩
  · rcases e with e | e
    · rw [e] at e'
      exact hb.2 e'
    · rw [e] at e'
      have := Option.some.inj e'
      have := h4.size
      omega
  · exact (g.block b (Nat.lt_of_lt_of_le hb.1 h4.size) (fun e' => hb.2 e'.symm)).trans (h4.block b hb.1)
theorem step_append_vals {P : Program} {w : World} {base : Nat} {t e : TypeId} {z : Value} {bytes : Nat} {v : Value} {xs : List Value} {ops : Array Oper} {o : Oper} {a : Act} {K : Act → World → Prop} {Q : Exit → Act → World → Prop} {E : Prop} (hT : OneCell P t e z bytes) (hgd : Region.wanted o (yielded ops a.tmps) = true) (s x : Operand)
    (ho : o.op = .call { callee := .builtin .append, args := #[s, x], argTypes := #[t, t] })
    (n : Nat) (hs : a.eval s = v) (hown : w.ownsRow base e 1 v n xs) (B : Nat) (A : Option Addr) (c : Nat) (news : List Value) (m : Nat) (hm : news.length = m) (hx : a.eval x = .slice A m c) (hr : Row w B A news)
    (h1 : ∀ u ∈ news, u.oneCell' = true) (hb : (n + m) * bytes ≤ 140737488355328) (h63 : n + m ≤ maxLen) (hbase : base ≤ w.heap.size) (k : Nat) (hk : n + m = k)
    (h : ∀ A' c' w', w'.ownsRow base e 1 (.slice A' k c') k (xs ++ news) → w.grownBy w' v.ownBlock → (.slice A' k c' : Value).ownBlock = v.ownBlock ∨ (.slice A' k c' : Value).ownBlock = some w.heap.size → K (a.put o.dst (.slice A' k c')) w') :
    if Region.wanted o (yielded ops a.tmps) = true then Oper.wp P o a w K Q else E := by
  rw [if_pos hgd]
  obtain ⟨v', w', hrun, h2, h3, h4⟩ := run_append_row hT o.type n hown B A c news m hm hr h1 h63 hb hbase
  obtain ⟨A', c', rfl, _, _⟩ := ownsRow_shape h2
  subst hk
  unfold Oper.wp execOp
  simp only [ho, resolve, invoke, builtin, Sem.run_bind, Sem.run_pure, Result.andThen_ok, List.map_toArray, List.map_cons, List.map_nil, hs, hx, hrun]
  exact h A' c' w' h2 h3 h4
theorem cells_kept {w w' : World} {row : Option Nat} (g : w.grownBy w' row) {b : Nat} (hb : b < w.heap.size) (hne : some b ≠ row) (i : Nat) : w'.cell? ⟨b, i, none⟩ = w.cell? ⟨b, i, none⟩ :=
  World.cell?_of_block (g.block b hb hne)
theorem two_len (a b : Nat) : ([a, b].flatMap (numB (wid 1))).length = 2 := by simp only [List.flatMap_cons, List.flatMap_nil, List.append_nil, List.length_append, numB_length]; rfl
theorem fresh_keep {B : Nat} {w2 w3 : World} {x b : Nat} (h : x ≤ b ∧ b < w2.heap.size) (hB : B ≤ x) (h2 : Below w2.heap.size w2 w3) : (B ≤ b ∧ b < w3.heap.size) ∧ w3.heap[b]? = w2.heap[b]? :=
  ⟨⟨Nat.le_trans hB h.1, Nat.lt_of_lt_of_le h.2 h2.size⟩, h2.block b h.2⟩
theorem fresh_keep2 {B : Nat} {w1 w2 w3 : World} {x b : Nat} (h : x ≤ b ∧ b < w1.heap.size) (hB : B ≤ x) (h1 : Below w1.heap.size w1 w2) (h2 : Below w2.heap.size w2 w3) : (B ≤ b ∧ b < w3.heap.size) ∧ w3.heap[b]? = w1.heap[b]? :=
  ⟨⟨Nat.le_trans hB h.1, Nat.lt_of_lt_of_le h.2 (Nat.le_trans h1.size h2.size)⟩, (h2.block b (Nat.lt_of_lt_of_le h.2 h1.size)).trans (h1.block b h.2)⟩
set_option maxRecDepth 100000 in
set_option maxHeartbeats 8000000 in
theorem write_no (n : IN) (v : Value) (w : World) (hv : Ents w w.heap.size v n.es) (h : ¬ n.ok) :
    Calls Try.prog 72 #[.agg #[.int .i64 n.k, .int .i64 n.z, v]] w fun e w' => e = .returned (.tuple #[.slice none 0 0, .int .i64 1]) ∧ Below w.heap.size w w' := by
  obtain ⟨A, c, rfl, hc, hm⟩ := hv.shape
  have HB := Lib.hid ((Below.refl w.heap.size w).alloc (Nat.le_refl _) (.cells #[.int .i64 n.k, .int .i64 n.z, .slice A n.es.length c] 66))
  have KC := Lib.hid (check_any n _ _ (hv.after HB.out))
  rw [if_neg h] at KC
  obtain ⟨W, hW⟩ : ∃ W, W = w.alloc (.cells #[.int .i64 n.k, .int .i64 n.z, .slice A n.es.length c] 66) := ⟨_, rfl⟩
  clear hv h
  go_enter Try.func72, Try.ntmps72
  rw [← hW] at HB KC
  go_wp2_with fail
  rw [← hW]
  refine KC.out.mono ?_
  rintro e w1 ⟨rfl, h1⟩
  go_wp2_with fail
  go_ret2
  exact ⟨rfl, HB.out.trans (h1.mono HB.out.size)⟩
set_option maxRecDepth 100000 in
set_option maxHeartbeats 8000000 in
theorem write_file (n : IN) (v : Value) (w : World) (hv : Ents w w.heap.size v n.es) (h : n.file) :
    Calls Try.prog 72 #[.agg #[.int .i64 n.k, .int .i64 n.z, v]] w fun e w' => ∃ g c, e = .returned (.tuple #[.slice (some ⟨g, 0, none⟩) n.bytes.length c, .int .i64 0]) ∧ Own 5 w' w.heap.size (.slice (some ⟨g, 0, none⟩) n.bytes.length c) n.bytes ∧ Below w.heap.size w w' := by
  obtain ⟨A, c, rfl, hc, hm⟩ := hv.shape
  have HB := Lib.hid ((Below.refl w.heap.size w).alloc (Nat.le_refl _) (.cells #[.int .i64 n.k, .int .i64 n.z, .slice A n.es.length c] 66))
  have KC := Lib.hid (check_any n _ _ (hv.after HB.out))
  rw [if_pos (.inl h)] at KC
  have BX := Lib.hid (fun w' => box3 w (.int .i64 n.k) (.int .i64 n.z) (.slice A n.es.length c) 66 (w' := w'))
  obtain ⟨W, hW⟩ : ∃ W, W = w.alloc (.cells #[.int .i64 n.k, .int .i64 n.z, .slice A n.es.length c] 66) := ⟨_, rfl⟩
  obtain ⟨k, z, es⟩ := n
  obtain ⟨h1, h2, h3, h4⟩ := h
  simp only at h1 h2 h3 h4
  subst h1
  obtain ⟨q, rfl⟩ : ∃ q : Nat, z = q := ⟨z.toNat, by omega⟩
  have hnb : IN.bytes ⟨1, q, es⟩ = numB 1 1 ++ numB 2 q := by unfold IN.bytes; rw [if_pos rfl]; rfl
  rw [hnb]
  have hnl : (numB 1 1 ++ numB 2 q).length = 3 := by rw [List.length_append, numB_length, numB_length]
  have k1 : ∀ w : World, Calls Try.prog 81 #[.int .i64 1, .int .u64 1] w fun e w' => ∃ A c, e = .returned (.slice A 1 c) ∧ Own 5 w' w.heap.size (.slice A 1 c) (numB 1 1) ∧ Below w.heap.size w w' := fun w => num_any 1 1 w
  have k2 : ∀ w : World, Calls Try.prog 81 #[.int .i64 2, .int .u64 (q : Int)] w fun e w' => ∃ A c, e = .returned (.slice A 2 c) ∧ Own 5 w' w.heap.size (.slice A 2 c) (numB 2 q) ∧ Below w.heap.size w w' := fun w => num_any 2 q w
  have K1 := Lib.hid k1
  have K2 := Lib.hid k2
  obtain ⟨NB, hNB⟩ : ∃ NB, numB 1 1 ++ numB 2 q = NB := ⟨_, rfl⟩
  rw [hNB] at hnl ⊢
  rw [hnl]
  have HNB := Lib.hid hNB
  have HNL := Lib.hid hnl
  simp only at HB KC BX hW hc
  clear hv h2 h4 hnb hnl k1 k2 hNB
  go_enter Try.func72, Try.ntmps72
  rw [← hW] at HB KC BX
  go_wp2_with fail
  rw [← hW]
  obtain ⟨g1, hg1⟩ : ∃ g1, w.heap.size = g1 := ⟨_, rfl⟩
  rw [hg1] at BX ⊢
  clear hW hg1
  refine KC.out.mono ?_
  clear KC
  rintro e w1 ⟨rfl, b1⟩
  have c1 := BX.out _ b1
  obtain ⟨c11, c12, c13⟩ := c1
  have T1 := Lib.hid b1
  go_wp2_with fail
  refine (K1.out _).mono ?_
  rintro e w2 ⟨A2, c2, rfl, O2, b2⟩
  have T2 := Lib.hid (T1.out.trans (b2.mono T1.out.size))
  have P2 := Lib.hid (O2.bytes (by rw [numB_length]; simp [maxLen]))
  obtain ⟨c21, c22, c23⟩ := BX.out _ T2.out
  clear O2 b2 b1 c11 c12 c13 K1
  go_wp2_with fail
  refine (K2.out _).mono ?_
  rintro e w3 ⟨A3, c3, rfl, O3, b3⟩
  have T3 := Lib.hid (T2.out.trans (b3.mono T2.out.size))
  have P3 := Lib.hid (O3.bytes (by rw [numB_length]; simp [maxLen]))
  have P2b := Lib.hid ((P2.out.below b3).more b3.size)
  have KJ := Lib.hid (join_any (.slice (some ⟨w3.heap.size, 0, none⟩) 2 2) [numB 1 1, numB 2 q] (w3.alloc (.cells #[.slice A2 1 c2, .slice A3 2 c3] 44)) (w3.heap.size + 1) (by simp) (Parts.new (Each.cons P2b.out (Each.cons P3.out Each.nil)) (Nat.le_refl _) (by simp [maxLen]) 2 rfl _ rfl _ (Nat.lt_succ_self _) _ _ rfl) (by simp [numB_length]))
  have HNB2 : Hid ([numB 1 1, numB 2 q].flatten = NB) := Lib.hid (by rw [← HNB.out]; simp)
  rw [HNB2.out, HNL.out] at KJ
  have T4 := Lib.hid (T3.out.alloc T3.out.size (.cells #[.slice A2 1 c2, .slice A3 2 c3] 44))
  have HS := Lib.hid (Nat.le_trans HB.out.size T4.out.size)
  clear O3 b3 P2 P2b P3 HNB2 K2 c21 c22 c23
  go_wp2_with fail
  refine KJ.out.mono ?_
  rintro e w5 ⟨g5, c5, rfl, hg5, O5, b5⟩
  go_wp2_with fail
  go_ret2
  have HT := T4.out.trans (b5.mono T4.out.size)
  exact ⟨_, _, rfl, O5.lower HS.out, HB.out.trans (HT.mono HB.out.size)⟩
set_option maxRecDepth 100000 in
set_option maxHeartbeats 16000000 in
theorem write_dir (n : IN) (v : Value) (w : World) (hv : Ents w w.heap.size v n.es) (h : n.dir) :
    Calls Try.prog 72 #[.agg #[.int .i64 n.k, .int .i64 n.z, v]] w fun e w' => ∃ g c, e = .returned (.tuple #[.slice (some ⟨g, 0, none⟩) n.bytes.length c, .int .i64 0]) ∧ Own 5 w' w.heap.size (.slice (some ⟨g, 0, none⟩) n.bytes.length c) n.bytes ∧ Below w.heap.size w w' := by
  obtain ⟨A, c, rfl, hc, hm⟩ := hv.shape
  have HB := Lib.hid ((Below.refl w.heap.size w).alloc (Nat.le_refl _) (.cells #[.int .i64 n.k, .int .i64 n.z, .slice A n.es.length c] 66))
  have HV := Lib.hid (hv.after HB.out)
  have KC := Lib.hid (check_any n _ _ HV.out)
  rw [if_pos (.inr h)] at KC
  have BX := Lib.hid (fun w' => box3 w (.int .i64 n.k) (.int .i64 n.z) (.slice A n.es.length c) 66 (w' := w'))
  obtain ⟨W, hW⟩ : ∃ W, W = w.alloc (.cells #[.int .i64 n.k, .int .i64 n.z, .slice A n.es.length c] 66) := ⟨_, rfl⟩
  obtain ⟨k, z, es⟩ := n
  obtain ⟨h1, h2, h3, h4⟩ := h
  simp only at h1 h2 h3 h4
  subst h1
  subst h2
  obtain ⟨N, hN⟩ : ∃ N, es.length = N := ⟨_, rfl⟩
  have hnb : IN.bytes ⟨2, 0, es⟩ = numB 1 2 ++ (numB 1 N ++ es.flatMap ebytes) := by unfold IN.bytes; rw [if_neg (by simp), ← hN]
  rw [hnb]
  have hle : (numB 1 2 ++ (numB 1 N ++ es.flatMap ebytes)).length ≤ 200 := by
    have := flat_bytes_le es (good_all h4)
    simp only [List.length_append, numB_length]
    omega
  have HGA := Lib.hid (good_all h4)
  have k1 : ∀ w : World, Calls Try.prog 81 #[.int .i64 1, .int .u64 2] w fun e w' => ∃ A c, e = .returned (.slice A 1 c) ∧ Own 5 w' w.heap.size (.slice A 1 c) (numB 1 2) ∧ Below w.heap.size w w' := fun w => num_any 1 2 w
  have k2 : ∀ w : World, Calls Try.prog 81 #[.int .i64 1, .int .u64 (N : Int)] w fun e w' => ∃ A c, e = .returned (.slice A 1 c) ∧ Own 5 w' w.heap.size (.slice A 1 c) (numB 1 N) ∧ Below w.heap.size w w' := fun w => num_any 1 N w
  have K1 := Lib.hid k1
  have K2 := Lib.hid k2
  have hN8 : N ≤ 8 := by omega
  obtain ⟨NB, hNB⟩ : ∃ NB, numB 1 2 ++ (numB 1 N ++ es.flatMap ebytes) = NB := ⟨_, rfl⟩
  rw [hNB] at hle ⊢
  have HNB := Lib.hid hNB
  have HN := Lib.hid hN
  simp only at HB KC BX hW hc HV
  rw [hN] at HB KC BX hW hc HV
  clear hv h4 h3 hnb k1 k2 hNB
  rw [hN]
  clear hN
  go_enter Try.func72, Try.ntmps72
  rw [← hW] at HB KC BX HV
  go_wp2_with fail
  rw [← hW]
  obtain ⟨g1, hg1⟩ : ∃ g1, w.heap.size = g1 := ⟨_, rfl⟩
  rw [hg1] at BX ⊢
  clear hW hg1
  refine KC.out.mono ?_
  clear KC
  rintro e w1 ⟨rfl, b1⟩
  have c1 := BX.out _ b1
  obtain ⟨c11, c12, c13⟩ := c1
  have T1 := Lib.hid b1
  go_wp2_with fail
  refine (K1.out _).mono ?_
  rintro e w2 ⟨A2, c2, rfl, O2, b2⟩
  have T2 := Lib.hid (T1.out.trans (b2.mono T1.out.size))
  have P2 := Lib.hid (O2.bytes (by rw [numB_length]; simp [maxLen]))
  obtain ⟨c21, c22, c23⟩ := BX.out _ T2.out
  clear O2 b2 b1 c11 c12 c13 K1
  go_wp2_with fail
  refine (K2.out _).mono ?_
  rintro e w3 ⟨A3, c3, rfl, O3, b3⟩
  have T3 := Lib.hid (T2.out.trans (b3.mono T2.out.size))
  have P3 := Lib.hid (O3.bytes (by rw [numB_length]; simp [maxLen]))
  have P2b := Lib.hid ((P2.out.below b3).more b3.size)
  have hE3 := Each.cons P2b.out (Each.cons P3.out Each.nil)
  have T4 := Lib.hid (T3.out.alloc T3.out.size (.cells #[.slice A2 1 c2, .slice A3 1 c3] 44))
  have HO4 : Hid ((w3.alloc (.cells #[.slice A2 1 c2, .slice A3 1 c3] 44)).ownsRow W.heap.size 44 1 (.slice (some ⟨w3.heap.size, 0, none⟩) 2 2) 2 [.slice A2 1 c2, .slice A3 1 c3]) := Lib.hid (World.ownsRow_lit w3 #[.slice A2 1 c2, .slice A3 1 c3] 2 T3.out.size (by simp [maxLen]) rfl)
  have HE4 : Hid (EachS (w3.alloc (.cells #[.slice A2 1 c2, .slice A3 1 c3] 44)) (fun b => b < (w3.alloc (.cells #[.slice A2 1 c2, .slice A3 1 c3] 44)).heap.size ∧ (.slice (some ⟨w3.heap.size, 0, none⟩) 2 2 : Value).ownBlock ≠ some b) [.slice A2 1 c2, .slice A3 1 c3] [numB 1 2, numB 1 N]) := Lib.hid (by
    have h := hE3.toS.keep (w' := w3.alloc (.cells #[.slice A2 1 c2, .slice A3 1 c3] 44)) (S' := fun b => b < (w3.alloc (.cells #[.slice A2 1 c2, .slice A3 1 c3] 44)).heap.size ∧ (.slice (some ⟨w3.heap.size, 0, none⟩) 2 2 : Value).ownBlock ≠ some b) (fun k hk => ⟨⟨by simp; omega, fun e => by have := Option.some.inj e; simp only at this; omega⟩, by rw [World.alloc_heap_old hk]⟩)
    exact h)
  obtain ⟨c31, c32, c33⟩ := BX.out _ T4.out
  have HZ : Hid ([numB 1 2, numB 1 N].flatten = numB 1 2 ++ (numB 1 N ++ (es.take 0).flatMap ebytes)) := Lib.hid (by simp)
  have HVW : Hid (Ents W W.heap.size (.slice A N c) es) := HV
  clear O3 b3 P2 P2b P3 K2 c21 c22 c23 hE3
  go_wp2_with fail
  go_loopg [6, 8, 38] N (fun g s6 _ i wx => ∃ (k : Nat) (A6 : Option Addr) (m c6 : Nat) (vs : List Value) (L : List (List UInt8)), k + g = N ∧ i = .int .i64 k ∧ s6 = .slice A6 m c6 ∧ Hid (m = 2 + 2 * k) ∧ Hid (wx.ownsRow W.heap.size 44 1 (.slice A6 m c6) m vs) ∧ Hid (EachS wx (fun b => b < wx.heap.size ∧ (.slice A6 m c6 : Value).ownBlock ≠ some b) vs L) ∧ Hid (L.flatten = numB 1 2 ++ (numB 1 N ++ (es.take k).flatMap ebytes)) ∧ Hid (Below W.heap.size W wx))
  case atStart => exact ⟨0, _, 2, 2, _, _, by omega, rfl, rfl, Lib.hid rfl, HO4, HE4, HZ, T4⟩
  case round =>
    obtain ⟨k, A6, m, c6, vs, L, hk, rfl, rfl, hm6, hO, hE, hL, hB⟩ := hrel
    clear HO4 HE4 HZ T4 c31 c32 c33
    cases gk with
    | zero =>
      obtain rfl : k = N := by omega
      have i4 : ¬ (k : Int) < (k : Int) := by omega
      have hfl : L.flatten = NB := by
        rw [hL.out, ← HNB.out, List.take_of_length_le (by rw [HN.out]; exact Nat.le_refl _)]
      obtain ⟨_, _, e1, _, _⟩ := ownsRow_shape hO.out
      have hvl := hO.out.1
      rw [Nat.mul_one] at hvl
      have hm100 : m ≤ 100 := by have := hm6.out; omega
      have hP : Parts wr wr.heap.size (.slice A6 m c6) L := ⟨A6, c6, vs, by rw [hvl], ownsRow_row hO.out, hE.out.each fun b hb => hb.1, by rw [hvl]; simp only [maxLen]; omega⟩
      have KJ := Lib.hid (join_any (.slice A6 m c6) L wr wr.heap.size (Nat.le_refl _) hP (by rw [hfl]; omega))
      rw [hfl] at KJ
      have HS := Lib.hid (Nat.le_trans HB.out.size hB.out.size)
      have HBB := Lib.hid (HB.out.trans (hB.out.mono HB.out.size))
      clear hfl hvl hP hm100 e1
      go_wp2_with fail
      refine KJ.out.mono ?_
      rintro e w9 ⟨g9, c9, rfl, hg9, O9, b9⟩
      go_wp2_with fail
      go_ret2
      exact ⟨_, _, rfl, O9.lower HS.out, HBB.out.trans (b9.mono HBB.out.size)⟩
    | succ g =>
      have hlt : k < es.length := by rw [HN.out]; omega
      have i4 : (k : Int) < (N : Int) := by omega
      obtain ⟨a, rfl, hab, hck⟩ := (HVW.out.below hB.out).elem (atE_get hlt)
      obtain ⟨E, hE0⟩ : ∃ E, atE es k = E := ⟨_, rfl⟩
      rw [hE0] at hck
      have HE0 := Lib.hid hE0
      have HCK2 : Hid (∀ j u, ([.string E.n, .int .i64 E.i] : List Value)[j]? = some u → wr.cell? ((a.add (k * 2)).add j) = some u) := Lib.hid hck
      have HOK : Hid (okE E = true) := Lib.hid (by rw [← hE0]; exact HGA.out _ (List.mem_of_getElem? (atE_get hlt)))
      clear hck hE0
      go_wp2_with (with_reducible refine wpl_cells (q := a.add (k * 2)) (row := [.string E.n, .int .i64 E.i]) aggE sizeE (.tmp 40) rfl rfl rfl rfl HCK2.out ?_)
      obtain ⟨en, ez⟩ := E
      obtain ⟨ei, rfl, hei⟩ : ∃ ei : Nat, ez = ei ∧ ei ≤ 24 := by
        have h := HOK.out
        unfold okE at h
        simp only [Bool.and_eq_true, decide_eq_true_eq] at h
        exact ⟨ez.toNat, by omega, by omega⟩
      have hen : en.size ≤ 12 := by
        have h := HOK.out
        unfold okE at h
        simp only [Bool.and_eq_true] at h
        have h1 := (of_decide_eq_true h.1).2.1
        rw [Lib.size_eq]
        exact h1
      simp only
      have HB8 := Lib.hid (hB.out.alloc hB.out.size (.cells #[.string en, .int .i64 (ei : Int)] 129))
      have HBr := Lib.hid ((Below.refl wr.heap.size wr).alloc (Nat.le_refl _) (.cells #[.string en, .int .i64 (ei : Int)] 129))
      have B8 := Lib.hid (fun w' => box2 wr (.string en) (.int .i64 (ei : Int)) 129 (w' := w'))
      have HO8 := Lib.hid (World.ownsRow.alloc hO.out (.cells #[.string en, .int .i64 (ei : Int)] 129))
      obtain ⟨W8, hW8⟩ : ∃ W8, W8 = wr.alloc (.cells #[.string en, .int .i64 (ei : Int)] 129) := ⟨_, rfl⟩
      rw [← hW8] at HB8 HBr B8 HO8 ⊢
      obtain ⟨g8, hg8⟩ : ∃ g8, wr.heap.size = g8 := ⟨_, rfl⟩
      have HG8 := Lib.hid hg8
      rw [hg8] at B8 ⊢
      clear hW8 hg8 HCK2
      have T1 := Lib.hid (Below.refl W8.heap.size W8).drew
      have HW8 := Lib.hid (Below.refl W8.heap.size W8)
      have S1 := B8.out _ T1.out
      have u1 : IntKind.u64.wrap (ei : Int) = (ei : Int) := by rw [IntKind.wrap_u64]; omega
      have u2 : IntKind.u64.wrap (en.size : Int) = (en.size : Int) := by rw [IntKind.wrap_u64]; omega
      have KC := Lib.hid (conv_any en (by omega))
      have KU := Lib.hid (fun w B A hB hr => nums_any 1 A [ei, en.size] 2 w B hB hr (by simp))
      have HV6 : Hid (∀ k, (.slice A6 m c6 : Value).ownBlock = some k → k < wr.heap.size) := Lib.hid fun k hk => (World.ownsRow.lt hO.out k hk).2
      have HM2 : Hid (m + 2 ≤ 100) := Lib.hid (by have := hm6.out; omega)
      refine wp_region_held_drew (S := (fun w' => w'.cell? ⟨g8, 0, none⟩ = some (.string en) ∧ w'.cell? ⟨g8, 1, none⟩ = some (.int .i64 (ei : Int)))) (by kernel_rfl) S1 (fun _ => ?_)
      refine wpAnyH_take (i := 0) (v := .slice A6 m c6) rfl (by kernel_rfl) (by kernel_rfl) (by kernel_rfl) (fun _ _ _ h => h) (Or.inl ⟨by kernel_rfl, fun w _ => by go_simp⟩) S1 ?_
      simp only [Act.put, List.getElem_toArray, List.getElem_cons_zero, List.setIfInBounds_toArray, List.set_cons_zero, List.set_cons_succ]
      refine wpAnyH_take (i := 1) (v := .pointer (some ⟨g8, 1, none⟩)) rfl (by kernel_rfl) (by kernel_rfl) (by kernel_rfl) (fun _ _ _ h => h) (Or.inl ⟨by kernel_rfl, fun w _ => by go_simp⟩) S1 ?_
      simp only [Act.put, List.getElem_toArray, List.getElem_cons_zero, List.getElem_cons_succ, List.setIfInBounds_toArray, List.set_cons_zero, List.set_cons_succ]
      refine wpAnyH_take (i := 2) (v := .int .i64 (ei : Int)) rfl (by kernel_rfl) (by kernel_rfl) (by kernel_rfl) (fun _ _ _ h => h) (yields_one (ty := 3) (fun w => by kernel_rfl) (.tmp 43) (by kernel_rfl) (by kernel_rfl) (by kernel_rfl) (fun w h => h.2)) S1 ?_
      simp only [Act.put, List.getElem_toArray, List.getElem_cons_zero, List.getElem_cons_succ, List.setIfInBounds_toArray, List.set_cons_zero, List.set_cons_succ]
      refine wpAnyH_take (i := 3) (v := .int .u64 (ei : Int)) rfl (by kernel_rfl) (by kernel_rfl) (by kernel_rfl) (fun _ _ _ h => h) (Or.inl ⟨by kernel_rfl, fun w _ => by go_simp⟩) S1 ?_
      simp only [Act.put, List.getElem_toArray, List.getElem_cons_zero, List.getElem_cons_succ, List.setIfInBounds_toArray, List.set_cons_zero, List.set_cons_succ]
      refine wpAnyH_take (i := 4) (v := .pointer (some ⟨g8, 0, none⟩)) rfl (by kernel_rfl) (by kernel_rfl) (by kernel_rfl) (fun _ _ _ h => h) (Or.inl ⟨by kernel_rfl, fun w _ => by go_simp⟩) S1 ?_
      simp only [Act.put, List.getElem_toArray, List.getElem_cons_zero, List.getElem_cons_succ, List.setIfInBounds_toArray, List.set_cons_zero, List.set_cons_succ]
      refine wpAnyH_take (i := 5) (v := .string en) rfl (by kernel_rfl) (by kernel_rfl) (by kernel_rfl) (fun _ _ _ h => h) (yields_one (ty := 9) (fun w => by kernel_rfl) (.tmp 46) (by kernel_rfl) (by kernel_rfl) (by kernel_rfl) (fun w h => h.1)) S1 ?_
      simp only [Act.put, List.getElem_toArray, List.getElem_cons_zero, List.getElem_cons_succ, List.setIfInBounds_toArray, List.set_cons_zero, List.set_cons_succ]
      refine wpAnyH_take (i := 6) (v := .int .i64 (en.size : Int)) rfl (by kernel_rfl) (by kernel_rfl) (by kernel_rfl) (fun _ _ _ h => h) (Or.inl ⟨by kernel_rfl, fun w _ => by go_simp⟩) S1 ?_
      simp only [Act.put, List.getElem_toArray, List.getElem_cons_zero, List.getElem_cons_succ, List.setIfInBounds_toArray, List.set_cons_zero, List.set_cons_succ]
      refine wpAnyH_take (i := 7) (v := .int .u64 (en.size : Int)) rfl (by kernel_rfl) (by kernel_rfl) (by kernel_rfl) (fun _ _ _ h => h) (Or.inl ⟨by kernel_rfl, fun w _ => by go_simp⟩) S1 ?_
      simp only [Act.put, List.getElem_toArray, List.getElem_cons_zero, List.getElem_cons_succ, List.setIfInBounds_toArray, List.set_cons_zero, List.set_cons_succ]
      refine wpAnyH_take (i := 10) (v := .pointer (some ⟨g8, 0, none⟩)) rfl (by kernel_rfl) (by kernel_rfl) (by kernel_rfl) (fun _ _ _ h => h) (Or.inl ⟨by kernel_rfl, fun w _ => by go_simp⟩) S1 ?_
      simp only [Act.put, List.getElem_toArray, List.getElem_cons_zero, List.getElem_cons_succ, List.setIfInBounds_toArray, List.set_cons_zero, List.set_cons_succ]
      refine wpAnyH_take (i := 11) (v := .string en) rfl (by kernel_rfl) (by kernel_rfl) (by kernel_rfl) (fun _ _ _ h => h) (yields_one (ty := 9) (fun w => by kernel_rfl) (.tmp 52) (by kernel_rfl) (by kernel_rfl) (by kernel_rfl) (fun w h => h.1)) S1 ?_
      simp only [Act.put, List.getElem_toArray, List.getElem_cons_zero, List.getElem_cons_succ, List.setIfInBounds_toArray, List.set_cons_zero, List.set_cons_succ]
      refine wpAnyH_ready (rs := [8, 12]) (by kernel_rfl) (by simp) (AllReadyH.cons rfl (fun K hK => ?_) (AllReadyH.cons rfl (fun K hK => ?_) AllReadyH.nil))
      · go_simp
        have TX1 := Lib.hid ((HW8.out.alloc HW8.out.size (.cells #[.int .u64 (ei : Int), .int .u64 (en.size : Int)] 119)).drew)
        have HRN : Hid (Row (W8.alloc (.cells #[.int .u64 (ei : Int), .int .u64 (en.size : Int)] 119)).drew (W8.heap.size + 1) (some ⟨W8.heap.size, 0, none⟩) (uv [ei, en.size])) := Lib.hid (Row.new W8 #[.int .u64 (ei : Int), .int .u64 (en.size : Int)] 119 (0, 0) W8.heap.size rfl (Nat.lt_succ_self _))
        have HRS : Hid (W8.heap.size + 1 ≤ (W8.alloc (.cells #[.int .u64 (ei : Int), .int .u64 (en.size : Int)] 119)).drew.heap.size) := Lib.hid (by simp)
        have HB50 : Hid (Below W8.heap.size W8 (W8.alloc (.cells #[.int .u64 (ei : Int), .int .u64 (en.size : Int)] 119)).drew) := Lib.hid ((Below.refl _ _).alloc (Nat.le_refl _) _).drew
        have S50 := B8.out _ TX1.out
        obtain ⟨X1, hX1⟩ : ∃ X1, X1 = (W8.alloc (.cells #[.int .u64 (ei : Int), .int .u64 (en.size : Int)] 119)).drew := ⟨_, rfl⟩
        rw [← hX1] at TX1 HRN HRS S50 HB50 ⊢
        obtain ⟨g50, hg50⟩ : ∃ g50, W8.heap.size = g50 := ⟨_, rfl⟩
        rw [hg50] at HRN HRS ⊢
        have HG50 := Lib.hid hg50
        clear hX1 hg50
        refine hK _ _ S50 (fun _ => ?_)
        clear hK K
        refine wpAnyH_ready (rs := [9, 12]) (by kernel_rfl) (by simp) (AllReadyH.cons rfl (fun K hK => ?_) (AllReadyH.cons rfl (fun K hK => ?_) AllReadyH.nil))
        · have HRS9 := HRS
          go_simp
          refine (KU.out X1 _ _ HRS9.out HRN.out).mono ?_
          rintro e X2 ⟨A51, n51, c51, rfl, hn51, O51, b51⟩
          have TX2 := Lib.hid (TX1.out.trans (b51.mono TX1.out.size))
          have HB51 := Lib.hid b51
          have HO51 := Lib.hid O51
          have HN51 := Lib.hid hn51
          have S51 := B8.out _ TX2.out
          clear b51 O51 hn51
          refine hK _ _ S51 (fun _ => ?_)
          clear hK K
          refine wpAnyH_ready (rs := [12]) (by kernel_rfl) (by simp) (AllReadyH.cons rfl (fun K hK => ?_) AllReadyH.nil)
          obtain ⟨c54, X3, hrun, hb54, hs54⟩ := KC.out X2
          have TX3 := Lib.hid (TX2.out.trans (hb54.mono TX2.out.size))
          have HB54 := Lib.hid hb54
          have HS54 := Lib.hid hs54
          have S54 := B8.out _ TX3.out
          clear hb54 hs54
          go_simp
          clear hrun
          refine hK _ _ S54 (fun _ => ?_)
          clear hK K
          have E51 := Lib.hid ((HO51.out.bytesS (by rw [two_len]; simp [maxLen])).keep (w' := X3) (S' := fun b => W8.heap.size ≤ b ∧ b < X3.heap.size) (fun b hb => fresh_keep (HO51.out.lt b hb) TX1.out.size HB54.out))
          have E54 := Lib.hid (HS54.out.keep (w' := X3) (S' := fun b => W8.heap.size ≤ b ∧ b < X3.heap.size) (fun b hb => ⟨⟨Nat.le_trans TX2.out.size hb.1, hb.2⟩, rfl⟩))
          refine wpAnyH_ready (rs := [13]) (by kernel_rfl) (by simp) (AllReadyH.cons rfl (fun K hK => ?_) AllReadyH.nil)
          go_simp
          obtain ⟨g54, hg54⟩ : ∃ g54, X2.heap.size = g54 := ⟨_, rfl⟩
          have E54 : Hid (BytesS X3 (fun b => W8.heap.size ≤ b ∧ b < X3.heap.size) (.slice (some ⟨g54, 0, none⟩) en.size c54) en.data.toList) := Lib.hid (by rw [← hg54]; exact E54.out)
          rw [hg54]
          clear hg54
          have TX4 := Lib.hid (TX3.out.alloc TX3.out.size (.cells #[.slice A51 n51 c51, .slice (some ⟨g54, 0, none⟩) en.size c54] 44))
          have H34 := Lib.hid ((Below.refl X3.heap.size X3).alloc (Nat.le_refl _) (.cells #[.slice A51 n51 c51, .slice (some ⟨g54, 0, none⟩) en.size c54] 44))
          have R55 : Hid (Row (X3.alloc (.cells #[.slice A51 n51 c51, .slice (some ⟨g54, 0, none⟩) en.size c54] 44)) (X3.heap.size + 1) (some ⟨X3.heap.size, 0, none⟩) [.slice A51 n51 c51, .slice (some ⟨g54, 0, none⟩) en.size c54]) := Lib.hid (Row.new X3 #[.slice A51 n51 c51, .slice (some ⟨g54, 0, none⟩) en.size c54] 44 (0, 0) X3.heap.size rfl (Nat.lt_succ_self _))
          have O55 : Hid ((X3.alloc (.cells #[.slice A51 n51 c51, .slice (some ⟨g54, 0, none⟩) en.size c54] 44)).ownsRow W.heap.size 44 1 (.slice A6 m c6) m vs) := Lib.hid (World.ownsRow.kept (row := none) HO8.out (only_of_below TX4.out none) (by cases A6 <;> simp [Value.ownBlock]))
          have S55 := B8.out _ TX4.out
          have HBX := Lib.hid (HB8.out.trans (TX4.out.mono HB8.out.size))
          obtain ⟨X4, hX4⟩ : ∃ X4, X4 = X3.alloc (.cells #[.slice A51 n51 c51, .slice (some ⟨g54, 0, none⟩) en.size c54] 44) := ⟨_, rfl⟩
          rw [← hX4] at TX4 H34 R55 O55 S55 HBX ⊢
          clear hX4
          refine hK _ _ S55 (fun _ => ?_)
          clear hK K
          refine wpAnyH_ready (rs := [14]) (by kernel_rfl) (by simp) (AllReadyH.cons rfl (fun K hK => ?_) AllReadyH.nil)
          refine step_append_vals partTy (by kernel_rfl) (.tmp 42) (.tmp 55) (by kernel_rfl) m (by kernel_rfl) O55.out (X3.heap.size + 1) (some ⟨X3.heap.size, 0, none⟩) 2 [.slice A51 n51 c51, .slice (some ⟨g54, 0, none⟩) en.size c54] 2 rfl (by kernel_rfl) R55.out (by intro u hu; simp at hu; rcases hu with rfl | rfl <;> rfl) (by have := HM2.out; omega) (by have := HM2.out; simp only [maxLen]; omega) HBX.out.size (m + 2) rfl ?_
          intro A9 c9 w9 O9 g9 e9
          have hne8 : some g8 ≠ (.slice A6 m c6 : Value).ownBlock := fun e => by have := HV6.out g8 e.symm; have := HG8.out; omega
          have hl8 : g8 < X4.heap.size := by have := World.block_lt_of_cell? _ _ S55.1; exact this
          have S9 := And.intro ((cells_kept g9 hl8 hne8 0).trans S55.1) ((cells_kept g9 hl8 hne8 1).trans S55.2)
          have HE9 := Lib.hid (each_next hE.out (HBr.out.trans (TX3.out.mono HBr.out.size)) E51.out E54.out HV6.out HBr.out.size H34.out g9 e9)
          have HO9 := Lib.hid O9
          have HB9 := Lib.hid (HBX.out.grown g9 HBX.out.size fun q hq => (World.ownsRow.lt O55.out q hq).1)
          have HL9 : Hid ((L ++ [[ei, en.size].flatMap (numB (wid 1)), en.data.toList]).flatten = numB 1 2 ++ (numB 1 N ++ (es.take (k + 1)).flatMap ebytes)) := Lib.hid (by rw [take_snoc _ (atE_get hlt), HE0.out, List.flatMap_append, List.flatten_append, hL.out]; simp [ebytes])
          clear g9 e9 O9 hne8 hl8
          refine hK _ _ S9 (fun _ => ?_)
          clear hK K
          refine wpAnyH_take (i := 15) (v := .slice A9 (m + 2) c9) rfl (by kernel_rfl) (by kernel_rfl) (by kernel_rfl) (fun _ _ _ h => h) (Or.inl ⟨by kernel_rfl, fun w _ => by go_simp⟩) S9 ?_
          simp only [Act.put, List.getElem_toArray, List.getElem_cons_zero, List.getElem_cons_succ, List.setIfInBounds_toArray, List.set_cons_zero, List.set_cons_succ]
          refine wpAnyH_done (by kernel_rfl) ?_ _
          go_wp2_with fail
          go_roundg g
          case measure => omega
          case rel => exact ⟨k + 1, A9, m + 2, c9, _, _, by omega, by go_num, rfl, Lib.hid (by have := hm6.out; omega), HO9, HE9, HL9, HB9⟩
        · obtain ⟨c54, X2, hrun, hb54, hs54⟩ := KC.out X1
          have TX2 := Lib.hid (TX1.out.trans (hb54.mono TX1.out.size))
          have HB54 := Lib.hid hb54
          have HS54 := Lib.hid hs54
          have S54 := B8.out _ TX2.out
          clear hb54 hs54
          go_simp
          clear hrun
          refine hK _ _ S54 (fun _ => ?_)
          clear hK K
          refine wpAnyH_ready (rs := [9]) (by kernel_rfl) (by simp) (AllReadyH.cons rfl (fun K hK => ?_) AllReadyH.nil)
          have HRS9 := Lib.hid (Nat.le_trans HRS.out HB54.out.size)
          go_simp
          refine (KU.out X2 _ _ HRS9.out (HRN.out.below (HB54.out.mono HRS.out))).mono ?_
          rintro e X3 ⟨A51, n51, c51, rfl, hn51, O51, b51⟩
          have TX3 := Lib.hid (TX2.out.trans (b51.mono TX2.out.size))
          have HB51 := Lib.hid b51
          have HO51 := Lib.hid O51
          have HN51 := Lib.hid hn51
          have S51 := B8.out _ TX3.out
          clear b51 O51 hn51
          refine hK _ _ S51 (fun _ => ?_)
          clear hK K
          have E51 := Lib.hid ((HO51.out.bytesS (by rw [two_len]; simp [maxLen])).keep (w' := X3) (S' := fun b => W8.heap.size ≤ b ∧ b < X3.heap.size) (fun b hb => ⟨⟨Nat.le_trans TX2.out.size (HO51.out.lt b hb).1, (HO51.out.lt b hb).2⟩, rfl⟩))
          have E54 := Lib.hid (HS54.out.keep (w' := X3) (S' := fun b => W8.heap.size ≤ b ∧ b < X3.heap.size) (fun b hb => fresh_keep hb TX1.out.size HB51.out))
          refine wpAnyH_ready (rs := [13]) (by kernel_rfl) (by simp) (AllReadyH.cons rfl (fun K hK => ?_) AllReadyH.nil)
          go_simp
          obtain ⟨g54, hg54⟩ : ∃ g54, X1.heap.size = g54 := ⟨_, rfl⟩
          have E54 : Hid (BytesS X3 (fun b => W8.heap.size ≤ b ∧ b < X3.heap.size) (.slice (some ⟨g54, 0, none⟩) en.size c54) en.data.toList) := Lib.hid (by rw [← hg54]; exact E54.out)
          rw [hg54]
          clear hg54
          have TX4 := Lib.hid (TX3.out.alloc TX3.out.size (.cells #[.slice A51 n51 c51, .slice (some ⟨g54, 0, none⟩) en.size c54] 44))
          have H34 := Lib.hid ((Below.refl X3.heap.size X3).alloc (Nat.le_refl _) (.cells #[.slice A51 n51 c51, .slice (some ⟨g54, 0, none⟩) en.size c54] 44))
          have R55 : Hid (Row (X3.alloc (.cells #[.slice A51 n51 c51, .slice (some ⟨g54, 0, none⟩) en.size c54] 44)) (X3.heap.size + 1) (some ⟨X3.heap.size, 0, none⟩) [.slice A51 n51 c51, .slice (some ⟨g54, 0, none⟩) en.size c54]) := Lib.hid (Row.new X3 #[.slice A51 n51 c51, .slice (some ⟨g54, 0, none⟩) en.size c54] 44 (0, 0) X3.heap.size rfl (Nat.lt_succ_self _))
          have O55 : Hid ((X3.alloc (.cells #[.slice A51 n51 c51, .slice (some ⟨g54, 0, none⟩) en.size c54] 44)).ownsRow W.heap.size 44 1 (.slice A6 m c6) m vs) := Lib.hid (World.ownsRow.kept (row := none) HO8.out (only_of_below TX4.out none) (by cases A6 <;> simp [Value.ownBlock]))
          have S55 := B8.out _ TX4.out
          have HBX := Lib.hid (HB8.out.trans (TX4.out.mono HB8.out.size))
          obtain ⟨X4, hX4⟩ : ∃ X4, X4 = X3.alloc (.cells #[.slice A51 n51 c51, .slice (some ⟨g54, 0, none⟩) en.size c54] 44) := ⟨_, rfl⟩
          rw [← hX4] at TX4 H34 R55 O55 S55 HBX ⊢
          clear hX4
          refine hK _ _ S55 (fun _ => ?_)
          clear hK K
          refine wpAnyH_ready (rs := [14]) (by kernel_rfl) (by simp) (AllReadyH.cons rfl (fun K hK => ?_) AllReadyH.nil)
          refine step_append_vals partTy (by kernel_rfl) (.tmp 42) (.tmp 55) (by kernel_rfl) m (by kernel_rfl) O55.out (X3.heap.size + 1) (some ⟨X3.heap.size, 0, none⟩) 2 [.slice A51 n51 c51, .slice (some ⟨g54, 0, none⟩) en.size c54] 2 rfl (by kernel_rfl) R55.out (by intro u hu; simp at hu; rcases hu with rfl | rfl <;> rfl) (by have := HM2.out; omega) (by have := HM2.out; simp only [maxLen]; omega) HBX.out.size (m + 2) rfl ?_
          intro A9 c9 w9 O9 g9 e9
          have hne8 : some g8 ≠ (.slice A6 m c6 : Value).ownBlock := fun e => by have := HV6.out g8 e.symm; have := HG8.out; omega
          have hl8 : g8 < X4.heap.size := by have := World.block_lt_of_cell? _ _ S55.1; exact this
          have S9 := And.intro ((cells_kept g9 hl8 hne8 0).trans S55.1) ((cells_kept g9 hl8 hne8 1).trans S55.2)
          have HE9 := Lib.hid (each_next hE.out (HBr.out.trans (TX3.out.mono HBr.out.size)) E51.out E54.out HV6.out HBr.out.size H34.out g9 e9)
          have HO9 := Lib.hid O9
          have HB9 := Lib.hid (HBX.out.grown g9 HBX.out.size fun q hq => (World.ownsRow.lt O55.out q hq).1)
          have HL9 : Hid ((L ++ [[ei, en.size].flatMap (numB (wid 1)), en.data.toList]).flatten = numB 1 2 ++ (numB 1 N ++ (es.take (k + 1)).flatMap ebytes)) := Lib.hid (by rw [take_snoc _ (atE_get hlt), HE0.out, List.flatMap_append, List.flatten_append, hL.out]; simp [ebytes])
          clear g9 e9 O9 hne8 hl8
          refine hK _ _ S9 (fun _ => ?_)
          clear hK K
          refine wpAnyH_take (i := 15) (v := .slice A9 (m + 2) c9) rfl (by kernel_rfl) (by kernel_rfl) (by kernel_rfl) (fun _ _ _ h => h) (Or.inl ⟨by kernel_rfl, fun w _ => by go_simp⟩) S9 ?_
          simp only [Act.put, List.getElem_toArray, List.getElem_cons_zero, List.getElem_cons_succ, List.setIfInBounds_toArray, List.set_cons_zero, List.set_cons_succ]
          refine wpAnyH_done (by kernel_rfl) ?_ _
          go_wp2_with fail
          go_roundg g
          case measure => omega
          case rel => exact ⟨k + 1, A9, m + 2, c9, _, _, by omega, by go_num, rfl, Lib.hid (by have := hm6.out; omega), HO9, HE9, HL9, HB9⟩
      · obtain ⟨c54, X1, hrun, hb54, hs54⟩ := KC.out W8.drew
        rw [show W8.drew.heap.size = W8.heap.size from rfl] at hrun hb54 hs54
        have TX1 := Lib.hid (T1.out.trans (hb54.mono T1.out.size))
        have HB54 := Lib.hid hb54
        have HS54 := Lib.hid hs54
        have S54 := B8.out _ TX1.out
        clear hb54 hs54
        go_simp
        clear hrun
        refine hK _ _ S54 (fun _ => ?_)
        clear hK K
        refine wpAnyH_ready (rs := [8]) (by kernel_rfl) (by simp) (AllReadyH.cons rfl (fun K hK => ?_) AllReadyH.nil)
        go_simp
        have TX2 := Lib.hid ((TX1.out.alloc TX1.out.size (.cells #[.int .u64 (ei : Int), .int .u64 (en.size : Int)] 119)))
        have HRN : Hid (Row (X1.alloc (.cells #[.int .u64 (ei : Int), .int .u64 (en.size : Int)] 119)) (X1.heap.size + 1) (some ⟨X1.heap.size, 0, none⟩) (uv [ei, en.size])) := Lib.hid (Row.new X1 #[.int .u64 (ei : Int), .int .u64 (en.size : Int)] 119 (0, 0) X1.heap.size rfl (Nat.lt_succ_self _))
        have HRS : Hid (X1.heap.size + 1 ≤ (X1.alloc (.cells #[.int .u64 (ei : Int), .int .u64 (en.size : Int)] 119)).heap.size) := Lib.hid (by simp)
        have HB50 : Hid (Below X1.heap.size X1 (X1.alloc (.cells #[.int .u64 (ei : Int), .int .u64 (en.size : Int)] 119))) := Lib.hid ((Below.refl _ _).alloc (Nat.le_refl _) _)
        have S50 := B8.out _ TX2.out
        obtain ⟨X2, hX2⟩ : ∃ X2, X2 = (X1.alloc (.cells #[.int .u64 (ei : Int), .int .u64 (en.size : Int)] 119)) := ⟨_, rfl⟩
        rw [← hX2] at TX2 HRN HRS S50 HB50 ⊢
        obtain ⟨g50, hg50⟩ : ∃ g50, X1.heap.size = g50 := ⟨_, rfl⟩
        rw [hg50] at HRN HRS ⊢
        have HG50 := Lib.hid hg50
        clear hX2 hg50
        refine hK _ _ S50 (fun _ => ?_)
        clear hK K
        refine wpAnyH_ready (rs := [9]) (by kernel_rfl) (by simp) (AllReadyH.cons rfl (fun K hK => ?_) AllReadyH.nil)
        have HRS9 := HRS
        go_simp
        refine (KU.out X2 _ _ HRS9.out HRN.out).mono ?_
        rintro e X3 ⟨A51, n51, c51, rfl, hn51, O51, b51⟩
        have TX3 := Lib.hid (TX2.out.trans (b51.mono TX2.out.size))
        have HB51 := Lib.hid b51
        have HO51 := Lib.hid O51
        have HN51 := Lib.hid hn51
        have S51 := B8.out _ TX3.out
        clear b51 O51 hn51
        refine hK _ _ S51 (fun _ => ?_)
        clear hK K
        have E51 := Lib.hid ((HO51.out.bytesS (by rw [two_len]; simp [maxLen])).keep (w' := X3) (S' := fun b => W8.heap.size ≤ b ∧ b < X3.heap.size) (fun b hb => ⟨⟨Nat.le_trans TX2.out.size (HO51.out.lt b hb).1, (HO51.out.lt b hb).2⟩, rfl⟩))
        have E54 := Lib.hid (HS54.out.keep (w' := X3) (S' := fun b => W8.heap.size ≤ b ∧ b < X3.heap.size) (fun b hb => fresh_keep2 hb T1.out.size HB50.out HB51.out))
        refine wpAnyH_ready (rs := [13]) (by kernel_rfl) (by simp) (AllReadyH.cons rfl (fun K hK => ?_) AllReadyH.nil)
        go_simp
        obtain ⟨g54, hg54⟩ : ∃ g54, W8.heap.size = g54 := ⟨_, rfl⟩
        have E54 : Hid (BytesS X3 (fun b => W8.heap.size ≤ b ∧ b < X3.heap.size) (.slice (some ⟨g54, 0, none⟩) en.size c54) en.data.toList) := Lib.hid (by rw [← hg54]; exact E54.out)
        rw [hg54]
        clear hg54
        have TX4 := Lib.hid (TX3.out.alloc TX3.out.size (.cells #[.slice A51 n51 c51, .slice (some ⟨g54, 0, none⟩) en.size c54] 44))
        have H34 := Lib.hid ((Below.refl X3.heap.size X3).alloc (Nat.le_refl _) (.cells #[.slice A51 n51 c51, .slice (some ⟨g54, 0, none⟩) en.size c54] 44))
        have R55 : Hid (Row (X3.alloc (.cells #[.slice A51 n51 c51, .slice (some ⟨g54, 0, none⟩) en.size c54] 44)) (X3.heap.size + 1) (some ⟨X3.heap.size, 0, none⟩) [.slice A51 n51 c51, .slice (some ⟨g54, 0, none⟩) en.size c54]) := Lib.hid (Row.new X3 #[.slice A51 n51 c51, .slice (some ⟨g54, 0, none⟩) en.size c54] 44 (0, 0) X3.heap.size rfl (Nat.lt_succ_self _))
        have O55 : Hid ((X3.alloc (.cells #[.slice A51 n51 c51, .slice (some ⟨g54, 0, none⟩) en.size c54] 44)).ownsRow W.heap.size 44 1 (.slice A6 m c6) m vs) := Lib.hid (World.ownsRow.kept (row := none) HO8.out (only_of_below TX4.out none) (by cases A6 <;> simp [Value.ownBlock]))
        have S55 := B8.out _ TX4.out
        have HBX := Lib.hid (HB8.out.trans (TX4.out.mono HB8.out.size))
        obtain ⟨X4, hX4⟩ : ∃ X4, X4 = X3.alloc (.cells #[.slice A51 n51 c51, .slice (some ⟨g54, 0, none⟩) en.size c54] 44) := ⟨_, rfl⟩
        rw [← hX4] at TX4 H34 R55 O55 S55 HBX ⊢
        clear hX4
        refine hK _ _ S55 (fun _ => ?_)
        clear hK K
        refine wpAnyH_ready (rs := [14]) (by kernel_rfl) (by simp) (AllReadyH.cons rfl (fun K hK => ?_) AllReadyH.nil)
        refine step_append_vals partTy (by kernel_rfl) (.tmp 42) (.tmp 55) (by kernel_rfl) m (by kernel_rfl) O55.out (X3.heap.size + 1) (some ⟨X3.heap.size, 0, none⟩) 2 [.slice A51 n51 c51, .slice (some ⟨g54, 0, none⟩) en.size c54] 2 rfl (by kernel_rfl) R55.out (by intro u hu; simp at hu; rcases hu with rfl | rfl <;> rfl) (by have := HM2.out; omega) (by have := HM2.out; simp only [maxLen]; omega) HBX.out.size (m + 2) rfl ?_
        intro A9 c9 w9 O9 g9 e9
        have hne8 : some g8 ≠ (.slice A6 m c6 : Value).ownBlock := fun e => by have := HV6.out g8 e.symm; have := HG8.out; omega
        have hl8 : g8 < X4.heap.size := by have := World.block_lt_of_cell? _ _ S55.1; exact this
        have S9 := And.intro ((cells_kept g9 hl8 hne8 0).trans S55.1) ((cells_kept g9 hl8 hne8 1).trans S55.2)
        have HE9 := Lib.hid (each_next hE.out (HBr.out.trans (TX3.out.mono HBr.out.size)) E51.out E54.out HV6.out HBr.out.size H34.out g9 e9)
        have HO9 := Lib.hid O9
        have HB9 := Lib.hid (HBX.out.grown g9 HBX.out.size fun q hq => (World.ownsRow.lt O55.out q hq).1)
        have HL9 : Hid ((L ++ [[ei, en.size].flatMap (numB (wid 1)), en.data.toList]).flatten = numB 1 2 ++ (numB 1 N ++ (es.take (k + 1)).flatMap ebytes)) := Lib.hid (by rw [take_snoc _ (atE_get hlt), HE0.out, List.flatMap_append, List.flatten_append, hL.out]; simp [ebytes])
        clear g9 e9 O9 hne8 hl8
        refine hK _ _ S9 (fun _ => ?_)
        clear hK K
        refine wpAnyH_take (i := 15) (v := .slice A9 (m + 2) c9) rfl (by kernel_rfl) (by kernel_rfl) (by kernel_rfl) (fun _ _ _ h => h) (Or.inl ⟨by kernel_rfl, fun w _ => by go_simp⟩) S9 ?_
        simp only [Act.put, List.getElem_toArray, List.getElem_cons_zero, List.getElem_cons_succ, List.setIfInBounds_toArray, List.set_cons_zero, List.set_cons_succ]
        refine wpAnyH_done (by kernel_rfl) ?_ _
        go_wp2_with fail
        go_roundg g
        case measure => omega
        case rel => exact ⟨k + 1, A9, m + 2, c9, _, _, by omega, by go_num, rfl, Lib.hid (by have := hm6.out; omega), HO9, HE9, HL9, HB9⟩
theorem write_yes (n : IN) (v : Value) (w : World) (hv : Ents w w.heap.size v n.es) (h : n.ok) :
    Calls Try.prog 72 #[.agg #[.int .i64 n.k, .int .i64 n.z, v]] w fun e w' => ∃ g c, e = .returned (.tuple #[.slice (some ⟨g, 0, none⟩) n.bytes.length c, .int .i64 0]) ∧ Own 5 w' w.heap.size (.slice (some ⟨g, 0, none⟩) n.bytes.length c) n.bytes ∧ Below w.heap.size w w' :=
  h.elim (write_file n v w hv) (write_dir n v w hv)
end Go.Proofs.Ytppodbijdhcclaa

/- What was written of an inode is read as it. No condition. -/
namespace Go.Proofs.Ytppodbijdhcclaa
open Go.RowKit
theorem r1_cons (b : UInt8) (l : List UInt8) : r1 (b :: l) = b.toNat := by simp [r1, le]
theorem ebytes_eq (e : EN) : ebytes e = UInt8.ofNat e.i.toNat :: UInt8.ofNat e.n.size :: e.n.data.toList := by
  have hw : wid 1 = 1 := rfl
  unfold ebytes
  rw [hw]
  rfl
theorem okE_facts {e : EN} (h : okE e = true) : 1 ≤ e.i ∧ e.i ≤ 24 ∧ e.n.size ≤ 12 := by
  unfold okE at h
  simp only [Bool.and_eq_true] at h
  have h1 := (of_decide_eq_true h.1).2.1
  have h2 := of_decide_eq_true h.2.1
  have h3 := of_decide_eq_true h.2.2
  exact ⟨h2, h3, by rw [Lib.size_eq]; exact h1⟩
theorem rEnt_back {e : EN} (h : okE e = true) (rest : List UInt8) : rEnt (ebytes e ++ rest) = e ∧ rRest (ebytes e ++ rest) = rest ∧ rBad false (ebytes e ++ rest) = false := by
  obtain ⟨h1, h2, h3⟩ := okE_facts h
  have hs := Lib.size_eq e.n
  have e2 : (UInt8.ofNat e.n.size).toNat = e.n.size := by rw [UInt8.toNat_ofNat']; omega
  have e1 : (UInt8.ofNat e.i.toNat).toNat = e.i.toNat := by rw [UInt8.toNat_ofNat']; omega
  rw [ebytes_eq]
  simp only [List.cons_append]
  unfold rEnt rRest rBad
  simp only [List.drop_succ_cons, List.drop_zero, r1_cons, e1, e2]
  refine ⟨?_, ?_, ?_⟩
  · unfold rTake
    rw [if_pos (by rw [List.length_append]; omega), hs, List.take_left]
    obtain ⟨n, i⟩ := e
    simp only at h1 ⊢
    congr 1
    omega
  · rw [hs, List.drop_left]
  · simp only [List.length_cons, List.length_append, Bool.false_or, Bool.or_eq_false_iff, decide_eq_false_iff_not]
    omega
theorem rEs_back : ∀ (es : List EN) (rest : List UInt8), (∀ e ∈ es, okE e = true) → rEs es.length (es.flatMap ebytes ++ rest) false = (es, rest, false)
  | [], rest, _ => rfl
  | e :: es, rest, h => by
    obtain ⟨h1, h2, h3⟩ := rEnt_back (h e (by simp)) (es.flatMap ebytes ++ rest)
    have ih := rEs_back es rest fun x hx => h x (by simp [hx])
    simp only [List.flatMap_cons, List.append_assoc, List.length_cons, rEs, h1, h2, h3, ih]
theorem inoR_back {n : IN} (h : n.ok) : inoR n.bytes = some n := by
  have hok := h
  obtain ⟨k, z, es⟩ := n
  rcases h with ⟨h1, h2, h3, h4⟩ | ⟨h1, h2, h3, h4⟩
  · simp only at h1 h2 h3 h4
    subst h1
    obtain rfl : es = [] := List.eq_nil_of_length_eq_zero h4
    obtain ⟨q, rfl⟩ : ∃ q : Nat, z = q := ⟨z.toNat, by omega⟩
    have hb : IN.bytes ⟨1, q, []⟩ = UInt8.ofNat 1 :: numB 2 q := by unfold IN.bytes; rw [if_pos rfl]; rfl
    have hl : (numB 2 q).length = 2 := numB_length 2 q
    have hr : rn2 (numB 2 q) = q := by
      unfold rn2
      rw [if_pos (by omega), List.take_of_length_le (by omega), le_numB]
      omega
    have hp : rPre (UInt8.ofNat 1 :: numB 2 q) = (⟨1, (q : Int), []⟩, [], false) := by
      unfold rPre
      rw [if_pos (by rw [r1_cons]; rfl)]
      simp only [List.drop_succ_cons, List.drop_zero, hr, List.length_cons, hl]
      rw [List.drop_of_length_le (by omega)]
      rfl
    rw [hb]
    unfold inoR
    rw [hp]
    exact if_pos ⟨by rw [List.length_cons]; omega, rfl, rfl, hok⟩
  · simp only at h1 h2 h3 h4
    subst h1
    subst h2
    have hg := good_all h4
    have hb : IN.bytes ⟨2, 0, es⟩ = UInt8.ofNat 2 :: UInt8.ofNat es.length :: es.flatMap ebytes := by unfold IN.bytes; rw [if_neg (by simp)]; rfl
    have hn : (UInt8.ofNat es.length).toNat = es.length := by rw [UInt8.toNat_ofNat']; omega
    have hx := rEs_back es [] hg
    rw [List.append_nil] at hx
    have hp : rPre (UInt8.ofNat 2 :: UInt8.ofNat es.length :: es.flatMap ebytes) = (⟨2, 0, es⟩, [], false) := by
      unfold rPre
      rw [if_neg (by rw [r1_cons]; decide), if_pos (by rw [r1_cons]; rfl)]
      simp only [List.drop_succ_cons, List.drop_zero, r1_cons, hn, List.length_cons]
      rw [show (decide ((es.flatMap ebytes).length + 1 + 1 < 1) || decide ((es.flatMap ebytes).length + 1 < 1)) = false by simp, hx]
    rw [hb]
    unfold inoR
    rw [hp]
    refine if_pos ⟨?_, rfl, rfl, hok⟩
    have := flat_bytes_le es hg
    simp only [List.length_cons]
    omega
end Go.Proofs.Ytppodbijdhcclaa

/- Which inodes are right: what the document's Right answers. No condition but that the entries are there. -/
namespace Go.Proofs.Ytppodbijdhcclaa
open Go.RowKit Go.Shelf
theorem first_cell {w : World} {p : Addr} {u : Value} (h : w.cell? (p.add 0) = some u) : w.cell? p = some u := by
  rw [show p.add 0 = p by unfold Addr.add; simp] at h
  exact h
set_option maxHeartbeats 8000000 in
set_option maxRecDepth 100000 in
theorem refRight_dir (n : IN) (v : Value) (w : World) (hv : Ents w w.heap.size v n.es) (hk1 : n.k ≠ 1) :
    Calls Try.prog 69 #[.agg #[.int .i64 n.k, .int .i64 n.z, v]] w fun e w' => e = .returned (.bool (decide n.dir)) ∧ Below w.heap.size w w' := by
  have HV := Lib.hid hv
  obtain ⟨A, c, rfl, hc, hm⟩ := hv.shape
  have HB := Lib.hid ((Below.refl w.heap.size w).alloc (Nat.le_refl _) (.cells #[.int .i64 n.k, .int .i64 n.z, .slice A n.es.length c] 66))
  have BX := Lib.hid (fun w' => box3 w (.int .i64 n.k) (.int .i64 n.z) (.slice A n.es.length c) 66 (w' := w'))
  clear hv
  obtain ⟨D, hD⟩ : ∃ D, decide n.dir = D := ⟨_, rfl⟩
  rw [hD]
  have HD := Lib.hid hD
  clear hD
  obtain ⟨k, z, es⟩ := n
  simp only at hc HB BX HV hk1 ⊢
  have i0 : (k == 1) = false := by simpa using hk1
  clear hk1
  by_cases h1 : k = 2
  · by_cases h2 : z = 0
    · by_cases h3 : es.length ≤ 8
      · have i3 : ¬ (8 : Int) < (es.length : Int) := by omega
        subst h1
        subst h2
        obtain ⟨W, hW⟩ : ∃ W, W = w.alloc (.cells #[.int .i64 2, .int .i64 0, .slice A es.length c] 66) := ⟨_, rfl⟩
        have HBW := Lib.hid (HV.out.after HB.out)
        go_enter Try.func69, Try.ntmps69
        go_wp2_with fail
        rw [← hW] at HB BX HBW ⊢
        obtain ⟨g1, hg1⟩ : ∃ g1, w.heap.size = g1 := ⟨_, rfl⟩
        have HG1 := Lib.hid hg1
        rw [hg1] at BX ⊢
        clear hW hg1
        go_loopg [3] es.length (fun g i wx => ∃ q : Nat, q + g = es.length ∧ i = .int .i64 q ∧ Hid (Below W.heap.size W wx) ∧ Hid (GoodTo es q))
        case atStart => exact ⟨0, by omega, rfl, Lib.hid (Below.refl _ _), Lib.hid (GoodTo.zero es)⟩
        case round =>
          obtain ⟨q, hq, rfl, hB, hG⟩ := hrel
          have x2 := (BX.out _ hB.out).2.2
          cases gk with
          | zero =>
            obtain rfl : q = es.length := by omega
            obtain rfl : D = true := HD.out.symm.trans (decide_eq_true ⟨rfl, rfl, h3, hG.out⟩)
            have i4 : ¬ (es.length : Int) < (es.length : Int) := by omega
            go_wp2_with fail
            go_ret
            exact ⟨rfl, HB.out.trans (hB.out.mono HB.out.size)⟩
          | succ g =>
            have hlt : q < es.length := by omega
            have i4 : (q : Int) < (es.length : Int) := by omega
            obtain ⟨a, rfl, hab, hck⟩ := (HBW.out.below hB.out).elem (atE_get hlt)
            obtain ⟨E, hE⟩ : ∃ E, atE es q = E := ⟨_, rfl⟩
            have HCK : Hid (∀ w', Below W.heap.size W w' → ∀ (j : Nat) u, ([.string E.n, .int .i64 E.i] : List Value)[j]? = some u → w'.cell? ((a.add (q * 2)).add j) = some u) := Lib.hid fun w' hb => by
              obtain ⟨a', e', _, hck⟩ := (HBW.out.below hb).elem (atE_get hlt)
              cases e'
              rw [hE] at hck
              exact hck
            have HE := Lib.hid hE
            clear hck hE
            have KE := Lib.hid (fits_any E)
            have T1 := Lib.hid (Below.refl wr.heap.size wr).drew
            have KS0 : Hid (∀ w', Below wr.heap.size wr w' → Below W.heap.size W w') := Lib.hid fun w' h => hB.out.trans (h.mono hB.out.size)
            obtain ⟨R, hR⟩ : ∃ R, okE E = R := ⟨_, rfl⟩
            rw [hR] at KE
            have HR := Lib.hid hR
            clear hR
            go_wp2_with fail
            clear x2
            cases R with
            | false =>
              obtain rfl : D = false := HD.out.symm.trans (decide_eq_false fun h => by
                have h2 := (h.2.2.2 q hlt).1
                rw [HE.out, HR.out] at h2
                cases h2)
              have KS : Hid (∀ w', Below wr.heap.size wr w' → w'.cell? ⟨g1, 2, none⟩ = some (.slice (some a) es.length c) ∧ ∀ (j : Nat) u, ([.string E.n, .int .i64 E.i] : List Value)[j]? = some u → w'.cell? ((a.add (q * 2)).add j) = some u) := Lib.hid fun w' h => ⟨(BX.out _ (KS0.out _ h)).2.2, HCK.out _ (KS0.out _ h)⟩
              have S1 := KS.out _ T1.out
              clear BX HBW
              refine wp_region_held_drew (S := (fun w' => w'.cell? ⟨g1, 2, none⟩ = some (.slice (some a) es.length c) ∧ ∀ (j : Nat) u, ([.string E.n, .int .i64 E.i] : List Value)[j]? = some u → w'.cell? ((a.add (q * 2)).add j) = some u)) (by kernel_rfl) S1 (fun _ => ?_)
              refine wpAnyH_take (i := 0) (v := .pointer (some ⟨g1, 2, none⟩)) rfl (by kernel_rfl) (by kernel_rfl) (by kernel_rfl) (fun _ _ _ h => h) (Or.inl ⟨by kernel_rfl, fun w _ => by go_simp⟩) S1 ?_
              simp only [Act.put, List.getElem_toArray, List.getElem_cons_zero, List.setIfInBounds_toArray, List.set_cons_zero, List.set_cons_succ]
              refine wpAnyH_take (i := 1) (v := .slice (some a) es.length c) rfl (by kernel_rfl) (by kernel_rfl) (by kernel_rfl) (fun _ _ _ h => h) (yields_one (ty := 64) (fun w => by kernel_rfl) (.tmp 42) (by kernel_rfl) (by kernel_rfl) (by kernel_rfl) (fun w h => h.1)) S1 ?_
              simp only [Act.put, List.getElem_toArray, List.getElem_cons_zero, List.getElem_cons_succ, List.setIfInBounds_toArray, List.set_cons_zero, List.set_cons_succ]
              refine wpAnyH_take (i := 2) (v := .int .i64 ((q : Nat) : Int)) rfl (by kernel_rfl) (by kernel_rfl) (by kernel_rfl) (fun _ _ _ h => h) (Or.inl ⟨by kernel_rfl, fun w _ => by go_simp⟩) S1 ?_
              simp only [Act.put, List.getElem_toArray, List.getElem_cons_zero, List.getElem_cons_succ, List.setIfInBounds_toArray, List.set_cons_zero, List.set_cons_succ]
              refine wpAnyH_take (i := 3) (v := .pointer (some (a.add (q * 2)))) rfl (by kernel_rfl) (by kernel_rfl) (by kernel_rfl) (fun _ _ _ h => h) (Or.inl ⟨by kernel_rfl, fun w _ => by go_simp⟩) S1 ?_
              simp only [Act.put, List.getElem_toArray, List.getElem_cons_zero, List.getElem_cons_succ, List.setIfInBounds_toArray, List.set_cons_zero, List.set_cons_succ]
              refine wpAnyH_take (i := 4) (v := .agg #[.string E.n, .int .i64 E.i]) rfl (by kernel_rfl) (by kernel_rfl) (by kernel_rfl) (fun _ _ _ h => h) (yields_cells (q := a.add (q * 2)) (row := [.string E.n, .int .i64 E.i]) aggE sizeE (.tmp 45) (by kernel_rfl) (by kernel_rfl) (by kernel_rfl) rfl (fun w h => h.2)) S1 ?_
              simp only [Act.put, List.getElem_toArray, List.getElem_cons_zero, List.getElem_cons_succ, List.setIfInBounds_toArray, List.set_cons_zero, List.set_cons_succ]
              refine wpAnyH_ready (rs := [5]) (by kernel_rfl) (by simp) (AllReadyH.cons rfl (fun K hK => ?_) AllReadyH.nil)
              go_simp
              ((with_reducible refine (KE.out _).mono ?_); rintro e w2 ⟨rfl, b2⟩)
              have T2 := Lib.hid (T1.out.trans (b2.mono T1.out.size))
              have S2 := KS.out _ T2.out
              refine hK _ _ S2 (fun _ => ?_)
              clear hK K b2
              refine wpAnyH_take (i := 6) (v := .bool true) rfl (by kernel_rfl) (by kernel_rfl) (by kernel_rfl) (fun _ _ _ h => h) (Or.inl ⟨by kernel_rfl, fun w _ => by go_simp⟩) S2 ?_
              simp only [Act.put, List.getElem_toArray, List.getElem_cons_zero, List.getElem_cons_succ, List.setIfInBounds_toArray, List.set_cons_zero, List.set_cons_succ]
              refine wpAnyH_take (i := 7) (v := .bool true) rfl (by kernel_rfl) (by kernel_rfl) (by kernel_rfl) (fun _ _ _ h => h) (Or.inl ⟨by kernel_rfl, fun w _ => by go_simp⟩) S2 ?_
              simp only [Act.put, List.getElem_toArray, List.getElem_cons_zero, List.getElem_cons_succ, List.setIfInBounds_toArray, List.set_cons_zero, List.set_cons_succ]
              refine wpAnyH_take (i := 8) (v := undef) rfl (by kernel_rfl) (by kernel_rfl) (by kernel_rfl) (fun _ _ _ h => h) (Or.inr ⟨by kernel_rfl, rfl⟩) S2 ?_
              simp only [Act.put, List.getElem_toArray, List.getElem_cons_zero, List.getElem_cons_succ, List.setIfInBounds_toArray, List.set_cons_zero, List.set_cons_succ]
              refine wpAnyH_take (i := 9) (v := undef) rfl (by kernel_rfl) (by kernel_rfl) (by kernel_rfl) (fun _ _ _ h => h) (Or.inr ⟨by kernel_rfl, rfl⟩) S2 ?_
              simp only [Act.put, List.getElem_toArray, List.getElem_cons_zero, List.getElem_cons_succ, List.setIfInBounds_toArray, List.set_cons_zero, List.set_cons_succ]
              refine wpAnyH_take (i := 10) (v := undef) rfl (by kernel_rfl) (by kernel_rfl) (by kernel_rfl) (fun _ _ _ h => h) (Or.inr ⟨by kernel_rfl, rfl⟩) S2 ?_
              simp only [Act.put, List.getElem_toArray, List.getElem_cons_zero, List.getElem_cons_succ, List.setIfInBounds_toArray, List.set_cons_zero, List.set_cons_succ]
              refine wpAnyH_take (i := 11) (v := undef) rfl (by kernel_rfl) (by kernel_rfl) (by kernel_rfl) (fun _ _ _ h => h) (Or.inr ⟨by kernel_rfl, rfl⟩) S2 ?_
              simp only [Act.put, List.getElem_toArray, List.getElem_cons_zero, List.getElem_cons_succ, List.setIfInBounds_toArray, List.set_cons_zero, List.set_cons_succ]
              refine wpAnyH_take (i := 12) (v := undef) rfl (by kernel_rfl) (by kernel_rfl) (by kernel_rfl) (fun _ _ _ h => h) (Or.inr ⟨by kernel_rfl, rfl⟩) S2 ?_
              simp only [Act.put, List.getElem_toArray, List.getElem_cons_zero, List.getElem_cons_succ, List.setIfInBounds_toArray, List.set_cons_zero, List.set_cons_succ]
              refine wpAnyH_take (i := 13) (v := undef) rfl (by kernel_rfl) (by kernel_rfl) (by kernel_rfl) (fun _ _ _ h => h) (Or.inr ⟨by kernel_rfl, rfl⟩) S2 ?_
              simp only [Act.put, List.getElem_toArray, List.getElem_cons_zero, List.getElem_cons_succ, List.setIfInBounds_toArray, List.set_cons_zero, List.set_cons_succ]
              refine wpAnyH_take (i := 14) (v := undef) rfl (by kernel_rfl) (by kernel_rfl) (by kernel_rfl) (fun _ _ _ h => h) (Or.inr ⟨by kernel_rfl, rfl⟩) S2 ?_
              simp only [Act.put, List.getElem_toArray, List.getElem_cons_zero, List.getElem_cons_succ, List.setIfInBounds_toArray, List.set_cons_zero, List.set_cons_succ]
              refine wpAnyH_take (i := 15) (v := undef) rfl (by kernel_rfl) (by kernel_rfl) (by kernel_rfl) (fun _ _ _ h => h) (Or.inr ⟨by kernel_rfl, rfl⟩) S2 ?_
              simp only [Act.put, List.getElem_toArray, List.getElem_cons_zero, List.getElem_cons_succ, List.setIfInBounds_toArray, List.set_cons_zero, List.set_cons_succ]
              refine wpAnyH_take (i := 16) (v := undef) rfl (by kernel_rfl) (by kernel_rfl) (by kernel_rfl) (fun _ _ _ h => h) (Or.inr ⟨by kernel_rfl, rfl⟩) S2 ?_
              simp only [Act.put, List.getElem_toArray, List.getElem_cons_zero, List.getElem_cons_succ, List.setIfInBounds_toArray, List.set_cons_zero, List.set_cons_succ]
              refine wpAnyH_take (i := 17) (v := undef) rfl (by kernel_rfl) (by kernel_rfl) (by kernel_rfl) (fun _ _ _ h => h) (Or.inr ⟨by kernel_rfl, rfl⟩) S2 ?_
              simp only [Act.put, List.getElem_toArray, List.getElem_cons_zero, List.getElem_cons_succ, List.setIfInBounds_toArray, List.set_cons_zero, List.set_cons_succ]
              refine wpAnyH_take (i := 18) (v := undef) rfl (by kernel_rfl) (by kernel_rfl) (by kernel_rfl) (fun _ _ _ h => h) (Or.inr ⟨by kernel_rfl, rfl⟩) S2 ?_
              simp only [Act.put, List.getElem_toArray, List.getElem_cons_zero, List.getElem_cons_succ, List.setIfInBounds_toArray, List.set_cons_zero, List.set_cons_succ]
              refine wpAnyH_take (i := 19) (v := undef) rfl (by kernel_rfl) (by kernel_rfl) (by kernel_rfl) (fun _ _ _ h => h) (Or.inr ⟨by kernel_rfl, rfl⟩) S2 ?_
              simp only [Act.put, List.getElem_toArray, List.getElem_cons_zero, List.getElem_cons_succ, List.setIfInBounds_toArray, List.set_cons_zero, List.set_cons_succ]
              refine wpAnyH_take (i := 20) (v := undef) rfl (by kernel_rfl) (by kernel_rfl) (by kernel_rfl) (fun _ _ _ h => h) (Or.inr ⟨by kernel_rfl, rfl⟩) S2 ?_
              simp only [Act.put, List.getElem_toArray, List.getElem_cons_zero, List.getElem_cons_succ, List.setIfInBounds_toArray, List.set_cons_zero, List.set_cons_succ]
              refine wpAnyH_take (i := 21) (v := undef) rfl (by kernel_rfl) (by kernel_rfl) (by kernel_rfl) (fun _ _ _ h => h) (Or.inr ⟨by kernel_rfl, rfl⟩) S2 ?_
              simp only [Act.put, List.getElem_toArray, List.getElem_cons_zero, List.getElem_cons_succ, List.setIfInBounds_toArray, List.set_cons_zero, List.set_cons_succ]
              refine wpAnyH_take (i := 22) (v := undef) rfl (by kernel_rfl) (by kernel_rfl) (by kernel_rfl) (fun _ _ _ h => h) (Or.inr ⟨by kernel_rfl, rfl⟩) S2 ?_
              simp only [Act.put, List.getElem_toArray, List.getElem_cons_zero, List.getElem_cons_succ, List.setIfInBounds_toArray, List.set_cons_zero, List.set_cons_succ]
              refine wpAnyH_take (i := 23) (v := undef) rfl (by kernel_rfl) (by kernel_rfl) (by kernel_rfl) (fun _ _ _ h => h) (Or.inr ⟨by kernel_rfl, rfl⟩) S2 ?_
              simp only [Act.put, List.getElem_toArray, List.getElem_cons_zero, List.getElem_cons_succ, List.setIfInBounds_toArray, List.set_cons_zero, List.set_cons_succ]
              refine wpAnyH_take (i := 24) (v := undef) rfl (by kernel_rfl) (by kernel_rfl) (by kernel_rfl) (fun _ _ _ h => h) (Or.inr ⟨by kernel_rfl, rfl⟩) S2 ?_
              simp only [Act.put, List.getElem_toArray, List.getElem_cons_zero, List.getElem_cons_succ, List.setIfInBounds_toArray, List.set_cons_zero, List.set_cons_succ]
              refine wpAnyH_take (i := 25) (v := undef) rfl (by kernel_rfl) (by kernel_rfl) (by kernel_rfl) (fun _ _ _ h => h) (Or.inr ⟨by kernel_rfl, rfl⟩) S2 ?_
              simp only [Act.put, List.getElem_toArray, List.getElem_cons_zero, List.getElem_cons_succ, List.setIfInBounds_toArray, List.set_cons_zero, List.set_cons_succ]
              refine wpAnyH_take (i := 26) (v := .bool true) rfl (by kernel_rfl) (by kernel_rfl) (by kernel_rfl) (fun _ _ _ h => h) (Or.inl ⟨by kernel_rfl, fun w _ => by go_simp⟩) S2 ?_
              simp only [Act.put, List.getElem_toArray, List.getElem_cons_zero, List.getElem_cons_succ, List.setIfInBounds_toArray, List.set_cons_zero, List.set_cons_succ]
              refine wpAnyH_done (by kernel_rfl) ?_ _
              clear S1 S2
              go_wp2_with fail
              go_ret
              exact ⟨rfl, HB.out.trans ((KS0.out _ T2.out).mono HB.out.size)⟩
            | true =>
              by_cases hq0 : q = 0
              · have i5 : ¬ (0 : Int) < (q : Int) := by omega
                have HG2 := Lib.hid (hG.out.next (by rw [HE.out]; exact HR.out) (fun h => absurd hq0 (by omega)))
                have KS : Hid (∀ w', Below wr.heap.size wr w' → w'.cell? ⟨g1, 2, none⟩ = some (.slice (some a) es.length c) ∧ ∀ (j : Nat) u, ([.string E.n, .int .i64 E.i] : List Value)[j]? = some u → w'.cell? ((a.add (q * 2)).add j) = some u) := Lib.hid fun w' h => ⟨(BX.out _ (KS0.out _ h)).2.2, HCK.out _ (KS0.out _ h)⟩
                have S1 := KS.out _ T1.out
                clear hq0
                refine wp_region_held_drew (S := (fun w' => w'.cell? ⟨g1, 2, none⟩ = some (.slice (some a) es.length c) ∧ ∀ (j : Nat) u, ([.string E.n, .int .i64 E.i] : List Value)[j]? = some u → w'.cell? ((a.add (q * 2)).add j) = some u)) (by kernel_rfl) S1 (fun _ => ?_)
                refine wpAnyH_take (i := 0) (v := .pointer (some ⟨g1, 2, none⟩)) rfl (by kernel_rfl) (by kernel_rfl) (by kernel_rfl) (fun _ _ _ h => h) (Or.inl ⟨by kernel_rfl, fun w _ => by go_simp⟩) S1 ?_
                simp only [Act.put, List.getElem_toArray, List.getElem_cons_zero, List.setIfInBounds_toArray, List.set_cons_zero, List.set_cons_succ]
                refine wpAnyH_take (i := 1) (v := .slice (some a) es.length c) rfl (by kernel_rfl) (by kernel_rfl) (by kernel_rfl) (fun _ _ _ h => h) (yields_one (ty := 64) (fun w => by kernel_rfl) (.tmp 42) (by kernel_rfl) (by kernel_rfl) (by kernel_rfl) (fun w h => h.1)) S1 ?_
                simp only [Act.put, List.getElem_toArray, List.getElem_cons_zero, List.getElem_cons_succ, List.setIfInBounds_toArray, List.set_cons_zero, List.set_cons_succ]
                refine wpAnyH_take (i := 2) (v := .int .i64 ((q : Nat) : Int)) rfl (by kernel_rfl) (by kernel_rfl) (by kernel_rfl) (fun _ _ _ h => h) (Or.inl ⟨by kernel_rfl, fun w _ => by go_simp⟩) S1 ?_
                simp only [Act.put, List.getElem_toArray, List.getElem_cons_zero, List.getElem_cons_succ, List.setIfInBounds_toArray, List.set_cons_zero, List.set_cons_succ]
                refine wpAnyH_take (i := 3) (v := .pointer (some (a.add (q * 2)))) rfl (by kernel_rfl) (by kernel_rfl) (by kernel_rfl) (fun _ _ _ h => h) (Or.inl ⟨by kernel_rfl, fun w _ => by go_simp⟩) S1 ?_
                simp only [Act.put, List.getElem_toArray, List.getElem_cons_zero, List.getElem_cons_succ, List.setIfInBounds_toArray, List.set_cons_zero, List.set_cons_succ]
                refine wpAnyH_take (i := 4) (v := .agg #[.string E.n, .int .i64 E.i]) rfl (by kernel_rfl) (by kernel_rfl) (by kernel_rfl) (fun _ _ _ h => h) (yields_cells (q := a.add (q * 2)) (row := [.string E.n, .int .i64 E.i]) aggE sizeE (.tmp 45) (by kernel_rfl) (by kernel_rfl) (by kernel_rfl) rfl (fun w h => h.2)) S1 ?_
                simp only [Act.put, List.getElem_toArray, List.getElem_cons_zero, List.getElem_cons_succ, List.setIfInBounds_toArray, List.set_cons_zero, List.set_cons_succ]
                refine wpAnyH_ready (rs := [5]) (by kernel_rfl) (by simp) (AllReadyH.cons rfl (fun K hK => ?_) AllReadyH.nil)
                go_simp
                ((with_reducible refine (KE.out _).mono ?_); rintro e w2 ⟨rfl, b2⟩)
                have T2 := Lib.hid (T1.out.trans (b2.mono T1.out.size))
                have S2 := KS.out _ T2.out
                refine hK _ _ S2 (fun _ => ?_)
                clear hK K b2
                refine wpAnyH_take (i := 6) (v := .bool false) rfl (by kernel_rfl) (by kernel_rfl) (by kernel_rfl) (fun _ _ _ h => h) (Or.inl ⟨by kernel_rfl, fun w _ => by go_simp⟩) S2 ?_
                simp only [Act.put, List.getElem_toArray, List.getElem_cons_zero, List.getElem_cons_succ, List.setIfInBounds_toArray, List.set_cons_zero, List.set_cons_succ]
                refine wpAnyH_take (i := 7) (v := .bool false) rfl (by kernel_rfl) (by kernel_rfl) (by kernel_rfl) (fun _ _ _ h => h) (Or.inl ⟨by kernel_rfl, fun w _ => by go_simp⟩) S2 ?_
                simp only [Act.put, List.getElem_toArray, List.getElem_cons_zero, List.getElem_cons_succ, List.setIfInBounds_toArray, List.set_cons_zero, List.set_cons_succ]
                refine wpAnyH_take (i := 8) (v := .int .i64 (q : Int)) rfl (by kernel_rfl) (by kernel_rfl) (by kernel_rfl) (fun _ _ _ h => h) (Or.inl ⟨by kernel_rfl, fun w _ => by go_simp⟩) S2 ?_
                simp only [Act.put, List.getElem_toArray, List.getElem_cons_zero, List.getElem_cons_succ, List.setIfInBounds_toArray, List.set_cons_zero, List.set_cons_succ]
                refine wpAnyH_take (i := 9) (v := .bool false) rfl (by kernel_rfl) (by kernel_rfl) (by kernel_rfl) (fun _ _ _ h => h) (Or.inl ⟨by kernel_rfl, fun w _ => by go_simp; omega⟩) S2 ?_
                simp only [Act.put, List.getElem_toArray, List.getElem_cons_zero, List.getElem_cons_succ, List.setIfInBounds_toArray, List.set_cons_zero, List.set_cons_succ]
                refine wpAnyH_take (i := 10) (v := .bool false) rfl (by kernel_rfl) (by kernel_rfl) (by kernel_rfl) (fun _ _ _ h => h) (Or.inl ⟨by kernel_rfl, fun w _ => by go_simp⟩) S2 ?_
                simp only [Act.put, List.getElem_toArray, List.getElem_cons_zero, List.getElem_cons_succ, List.setIfInBounds_toArray, List.set_cons_zero, List.set_cons_succ]
                refine wpAnyH_take (i := 11) (v := undef) rfl (by kernel_rfl) (by kernel_rfl) (by kernel_rfl) (fun _ _ _ h => h) (Or.inr ⟨by kernel_rfl, rfl⟩) S2 ?_
                simp only [Act.put, List.getElem_toArray, List.getElem_cons_zero, List.getElem_cons_succ, List.setIfInBounds_toArray, List.set_cons_zero, List.set_cons_succ]
                refine wpAnyH_take (i := 12) (v := undef) rfl (by kernel_rfl) (by kernel_rfl) (by kernel_rfl) (fun _ _ _ h => h) (Or.inr ⟨by kernel_rfl, rfl⟩) S2 ?_
                simp only [Act.put, List.getElem_toArray, List.getElem_cons_zero, List.getElem_cons_succ, List.setIfInBounds_toArray, List.set_cons_zero, List.set_cons_succ]
                refine wpAnyH_take (i := 13) (v := undef) rfl (by kernel_rfl) (by kernel_rfl) (by kernel_rfl) (fun _ _ _ h => h) (Or.inr ⟨by kernel_rfl, rfl⟩) S2 ?_
                simp only [Act.put, List.getElem_toArray, List.getElem_cons_zero, List.getElem_cons_succ, List.setIfInBounds_toArray, List.set_cons_zero, List.set_cons_succ]
                refine wpAnyH_take (i := 14) (v := undef) rfl (by kernel_rfl) (by kernel_rfl) (by kernel_rfl) (fun _ _ _ h => h) (Or.inr ⟨by kernel_rfl, rfl⟩) S2 ?_
                simp only [Act.put, List.getElem_toArray, List.getElem_cons_zero, List.getElem_cons_succ, List.setIfInBounds_toArray, List.set_cons_zero, List.set_cons_succ]
                refine wpAnyH_take (i := 15) (v := undef) rfl (by kernel_rfl) (by kernel_rfl) (by kernel_rfl) (fun _ _ _ h => h) (Or.inr ⟨by kernel_rfl, rfl⟩) S2 ?_
                simp only [Act.put, List.getElem_toArray, List.getElem_cons_zero, List.getElem_cons_succ, List.setIfInBounds_toArray, List.set_cons_zero, List.set_cons_succ]
                refine wpAnyH_take (i := 16) (v := undef) rfl (by kernel_rfl) (by kernel_rfl) (by kernel_rfl) (fun _ _ _ h => h) (Or.inr ⟨by kernel_rfl, rfl⟩) S2 ?_
                simp only [Act.put, List.getElem_toArray, List.getElem_cons_zero, List.getElem_cons_succ, List.setIfInBounds_toArray, List.set_cons_zero, List.set_cons_succ]
                refine wpAnyH_take (i := 17) (v := undef) rfl (by kernel_rfl) (by kernel_rfl) (by kernel_rfl) (fun _ _ _ h => h) (Or.inr ⟨by kernel_rfl, rfl⟩) S2 ?_
                simp only [Act.put, List.getElem_toArray, List.getElem_cons_zero, List.getElem_cons_succ, List.setIfInBounds_toArray, List.set_cons_zero, List.set_cons_succ]
                refine wpAnyH_take (i := 18) (v := undef) rfl (by kernel_rfl) (by kernel_rfl) (by kernel_rfl) (fun _ _ _ h => h) (Or.inr ⟨by kernel_rfl, rfl⟩) S2 ?_
                simp only [Act.put, List.getElem_toArray, List.getElem_cons_zero, List.getElem_cons_succ, List.setIfInBounds_toArray, List.set_cons_zero, List.set_cons_succ]
                refine wpAnyH_take (i := 19) (v := undef) rfl (by kernel_rfl) (by kernel_rfl) (by kernel_rfl) (fun _ _ _ h => h) (Or.inr ⟨by kernel_rfl, rfl⟩) S2 ?_
                simp only [Act.put, List.getElem_toArray, List.getElem_cons_zero, List.getElem_cons_succ, List.setIfInBounds_toArray, List.set_cons_zero, List.set_cons_succ]
                refine wpAnyH_take (i := 20) (v := undef) rfl (by kernel_rfl) (by kernel_rfl) (by kernel_rfl) (fun _ _ _ h => h) (Or.inr ⟨by kernel_rfl, rfl⟩) S2 ?_
                simp only [Act.put, List.getElem_toArray, List.getElem_cons_zero, List.getElem_cons_succ, List.setIfInBounds_toArray, List.set_cons_zero, List.set_cons_succ]
                refine wpAnyH_take (i := 21) (v := undef) rfl (by kernel_rfl) (by kernel_rfl) (by kernel_rfl) (fun _ _ _ h => h) (Or.inr ⟨by kernel_rfl, rfl⟩) S2 ?_
                simp only [Act.put, List.getElem_toArray, List.getElem_cons_zero, List.getElem_cons_succ, List.setIfInBounds_toArray, List.set_cons_zero, List.set_cons_succ]
                refine wpAnyH_take (i := 22) (v := undef) rfl (by kernel_rfl) (by kernel_rfl) (by kernel_rfl) (fun _ _ _ h => h) (Or.inr ⟨by kernel_rfl, rfl⟩) S2 ?_
                simp only [Act.put, List.getElem_toArray, List.getElem_cons_zero, List.getElem_cons_succ, List.setIfInBounds_toArray, List.set_cons_zero, List.set_cons_succ]
                refine wpAnyH_take (i := 23) (v := undef) rfl (by kernel_rfl) (by kernel_rfl) (by kernel_rfl) (fun _ _ _ h => h) (Or.inr ⟨by kernel_rfl, rfl⟩) S2 ?_
                simp only [Act.put, List.getElem_toArray, List.getElem_cons_zero, List.getElem_cons_succ, List.setIfInBounds_toArray, List.set_cons_zero, List.set_cons_succ]
                refine wpAnyH_take (i := 24) (v := undef) rfl (by kernel_rfl) (by kernel_rfl) (by kernel_rfl) (fun _ _ _ h => h) (Or.inr ⟨by kernel_rfl, rfl⟩) S2 ?_
                simp only [Act.put, List.getElem_toArray, List.getElem_cons_zero, List.getElem_cons_succ, List.setIfInBounds_toArray, List.set_cons_zero, List.set_cons_succ]
                refine wpAnyH_take (i := 25) (v := .bool false) rfl (by kernel_rfl) (by kernel_rfl) (by kernel_rfl) (fun _ _ _ h => h) (Or.inl ⟨by kernel_rfl, fun w _ => by go_simp⟩) S2 ?_
                simp only [Act.put, List.getElem_toArray, List.getElem_cons_zero, List.getElem_cons_succ, List.setIfInBounds_toArray, List.set_cons_zero, List.set_cons_succ]
                refine wpAnyH_take (i := 26) (v := .bool false) rfl (by kernel_rfl) (by kernel_rfl) (by kernel_rfl) (fun _ _ _ h => h) (Or.inl ⟨by kernel_rfl, fun w _ => by go_simp⟩) S2 ?_
                simp only [Act.put, List.getElem_toArray, List.getElem_cons_zero, List.getElem_cons_succ, List.setIfInBounds_toArray, List.set_cons_zero, List.set_cons_succ]
                refine wpAnyH_done (by kernel_rfl) ?_ _
                clear S1 S2
                go_wp2_with fail
                go_roundg g
                case measure => omega
                case rel => exact ⟨q + 1, by omega, by go_num, Lib.hid (KS0.out _ T2.out), HG2⟩
              · obtain ⟨r, rfl⟩ : ∃ r, q = r + 1 := ⟨q - 1, by omega⟩
                have hql : r < es.length := by omega
                have j6 : (r : Int) < (es.length : Int) := by omega
                have j7 : IntKind.i64.wrap (r : Int) = (r : Int) := wrap_small (r : Int) (by omega) (by omega)
                clear hq0
                have i5 : (0 : Int) < ((r : Int) + 1) := by omega
                have k5 : (0 : Int) ≤ (r : Int) + 1 := by omega
                have k6 : (r : Int) + 1 < (es.length : Int) := by omega
                obtain ⟨F, hF⟩ : ∃ F, atE es r = F := ⟨_, rfl⟩
                have HF := Lib.hid hF
                have HP : Hid (∀ w', Below W.heap.size W w' → ∀ (j : Nat) u, ([.string F.n, .int .i64 F.i] : List Value)[j]? = some u → w'.cell? ((a.add (r * 2)).add j) = some u) := Lib.hid fun w' hb => by
                  obtain ⟨a', e', _, hck⟩ := (HBW.out.below hb).elem (atE_get hql)
                  cases e'
                  rw [hF] at hck
                  exact hck
                have KS : Hid (∀ w', Below wr.heap.size wr w' → w'.cell? ⟨g1, 2, none⟩ = some (.slice (some a) es.length c) ∧ (∀ (j : Nat) u, ([.string E.n, .int .i64 E.i] : List Value)[j]? = some u → w'.cell? ((a.add ((r + 1) * 2)).add j) = some u) ∧ ∀ (j : Nat) u, ([.string F.n, .int .i64 F.i] : List Value)[j]? = some u → w'.cell? ((a.add (r * 2)).add j) = some u) := Lib.hid fun w' h => ⟨(BX.out _ (KS0.out _ h)).2.2, HCK.out _ (KS0.out _ h), HP.out _ (KS0.out _ h)⟩
                obtain ⟨L, hL⟩ : ∃ L, less F.n E.n = L := ⟨_, rfl⟩
                have HL := Lib.hid hL
                have hl' : Op.bytesLess F.n.toList E.n.toList = L := hL
                have S1 := KS.out _ T1.out
                clear hF HP hL
                cases L with
                | true =>
                  have HG2 := Lib.hid (hG.out.next (by rw [HE.out]; exact HR.out) (fun h => by rw [Nat.add_sub_cancel, HF.out, HE.out]; exact HL.out))
                  refine wp_region_held_drew (S := (fun w' => w'.cell? ⟨g1, 2, none⟩ = some (.slice (some a) es.length c) ∧ (∀ (j : Nat) u, ([.string E.n, .int .i64 E.i] : List Value)[j]? = some u → w'.cell? ((a.add ((r + 1) * 2)).add j) = some u) ∧ ∀ (j : Nat) u, ([.string F.n, .int .i64 F.i] : List Value)[j]? = some u → w'.cell? ((a.add (r * 2)).add j) = some u)) (by kernel_rfl) S1 (fun _ => ?_)
                  refine wpAnyH_take (i := 0) (v := .pointer (some ⟨g1, 2, none⟩)) rfl (by kernel_rfl) (by kernel_rfl) (by kernel_rfl) (fun _ _ _ h => h) (Or.inl ⟨by kernel_rfl, fun w _ => by go_simp⟩) S1 ?_
                  simp only [Act.put, List.getElem_toArray, List.getElem_cons_zero, List.setIfInBounds_toArray, List.set_cons_zero, List.set_cons_succ]
                  refine wpAnyH_take (i := 1) (v := .slice (some a) es.length c) rfl (by kernel_rfl) (by kernel_rfl) (by kernel_rfl) (fun _ _ _ h => h) (yields_one (ty := 64) (fun w => by kernel_rfl) (.tmp 42) (by kernel_rfl) (by kernel_rfl) (by kernel_rfl) (fun w h => h.1)) S1 ?_
                  simp only [Act.put, List.getElem_toArray, List.getElem_cons_zero, List.getElem_cons_succ, List.setIfInBounds_toArray, List.set_cons_zero, List.set_cons_succ]
                  refine wpAnyH_take (i := 2) (v := .int .i64 (((r + 1) : Nat) : Int)) rfl (by kernel_rfl) (by kernel_rfl) (by kernel_rfl) (fun _ _ _ h => h) (Or.inl ⟨by kernel_rfl, fun w _ => by go_simp⟩) S1 ?_
                  simp only [Act.put, List.getElem_toArray, List.getElem_cons_zero, List.getElem_cons_succ, List.setIfInBounds_toArray, List.set_cons_zero, List.set_cons_succ]
                  refine wpAnyH_take (i := 3) (v := .pointer (some (a.add ((r + 1) * 2)))) rfl (by kernel_rfl) (by kernel_rfl) (by kernel_rfl) (fun _ _ _ h => h) (Or.inl ⟨by kernel_rfl, fun w _ => by go_simp⟩) S1 ?_
                  simp only [Act.put, List.getElem_toArray, List.getElem_cons_zero, List.getElem_cons_succ, List.setIfInBounds_toArray, List.set_cons_zero, List.set_cons_succ]
                  refine wpAnyH_take (i := 4) (v := .agg #[.string E.n, .int .i64 E.i]) rfl (by kernel_rfl) (by kernel_rfl) (by kernel_rfl) (fun _ _ _ h => h) (yields_cells (q := a.add ((r + 1) * 2)) (row := [.string E.n, .int .i64 E.i]) aggE sizeE (.tmp 45) (by kernel_rfl) (by kernel_rfl) (by kernel_rfl) rfl (fun w h => h.2.1)) S1 ?_
                  simp only [Act.put, List.getElem_toArray, List.getElem_cons_zero, List.getElem_cons_succ, List.setIfInBounds_toArray, List.set_cons_zero, List.set_cons_succ]
                  refine wpAnyH_ready (rs := [5]) (by kernel_rfl) (by simp) (AllReadyH.cons rfl (fun K hK => ?_) AllReadyH.nil)
                  go_simp
                  ((with_reducible refine (KE.out _).mono ?_); rintro e w2 ⟨rfl, b2⟩)
                  have T2 := Lib.hid (T1.out.trans (b2.mono T1.out.size))
                  have S2 := KS.out _ T2.out
                  refine hK _ _ S2 (fun _ => ?_)
                  clear hK K b2
                  refine wpAnyH_take (i := 6) (v := .bool false) rfl (by kernel_rfl) (by kernel_rfl) (by kernel_rfl) (fun _ _ _ h => h) (Or.inl ⟨by kernel_rfl, fun w _ => by go_simp⟩) S2 ?_
                  simp only [Act.put, List.getElem_toArray, List.getElem_cons_zero, List.getElem_cons_succ, List.setIfInBounds_toArray, List.set_cons_zero, List.set_cons_succ]
                  refine wpAnyH_take (i := 7) (v := .bool false) rfl (by kernel_rfl) (by kernel_rfl) (by kernel_rfl) (fun _ _ _ h => h) (Or.inl ⟨by kernel_rfl, fun w _ => by go_simp⟩) S2 ?_
                  simp only [Act.put, List.getElem_toArray, List.getElem_cons_zero, List.getElem_cons_succ, List.setIfInBounds_toArray, List.set_cons_zero, List.set_cons_succ]
                  refine wpAnyH_take (i := 8) (v := .int .i64 ((r + 1 : Nat) : Int)) rfl (by kernel_rfl) (by kernel_rfl) (by kernel_rfl) (fun _ _ _ h => h) (Or.inl ⟨by kernel_rfl, fun w _ => by go_simp⟩) S2 ?_
                  simp only [Act.put, List.getElem_toArray, List.getElem_cons_zero, List.getElem_cons_succ, List.setIfInBounds_toArray, List.set_cons_zero, List.set_cons_succ]
                  refine wpAnyH_take (i := 9) (v := .bool true) rfl (by kernel_rfl) (by kernel_rfl) (by kernel_rfl) (fun _ _ _ h => h) (Or.inl ⟨by kernel_rfl, fun w _ => by go_simp⟩) S2 ?_
                  simp only [Act.put, List.getElem_toArray, List.getElem_cons_zero, List.getElem_cons_succ, List.setIfInBounds_toArray, List.set_cons_zero, List.set_cons_succ]
                  refine wpAnyH_take (i := 10) (v := .bool true) rfl (by kernel_rfl) (by kernel_rfl) (by kernel_rfl) (fun _ _ _ h => h) (Or.inl ⟨by kernel_rfl, fun w _ => by go_simp⟩) S2 ?_
                  simp only [Act.put, List.getElem_toArray, List.getElem_cons_zero, List.getElem_cons_succ, List.setIfInBounds_toArray, List.set_cons_zero, List.set_cons_succ]
                  refine wpAnyH_take (i := 11) (v := .pointer (some ⟨g1, 2, none⟩)) rfl (by kernel_rfl) (by kernel_rfl) (by kernel_rfl) (fun _ _ _ h => h) (Or.inl ⟨by kernel_rfl, fun w _ => by go_simp⟩) S2 ?_
                  simp only [Act.put, List.getElem_toArray, List.getElem_cons_zero, List.getElem_cons_succ, List.setIfInBounds_toArray, List.set_cons_zero, List.set_cons_succ]
                  refine wpAnyH_take (i := 12) (v := .slice (some a) es.length c) rfl (by kernel_rfl) (by kernel_rfl) (by kernel_rfl) (fun _ _ _ h => h) (yields_one (ty := 64) (fun w => by kernel_rfl) (.tmp 53) (by kernel_rfl) (by kernel_rfl) (by kernel_rfl) (fun w h => h.1)) S2 ?_
                  simp only [Act.put, List.getElem_toArray, List.getElem_cons_zero, List.getElem_cons_succ, List.setIfInBounds_toArray, List.set_cons_zero, List.set_cons_succ]
                  refine wpAnyH_take (i := 13) (v := .int .i64 ((r + 1 : Nat) : Int)) rfl (by kernel_rfl) (by kernel_rfl) (by kernel_rfl) (fun _ _ _ h => h) (Or.inl ⟨by kernel_rfl, fun w _ => by go_simp⟩) S2 ?_
                  simp only [Act.put, List.getElem_toArray, List.getElem_cons_zero, List.getElem_cons_succ, List.setIfInBounds_toArray, List.set_cons_zero, List.set_cons_succ]
                  refine wpAnyH_take (i := 14) (v := .int .i64 (r : Int)) rfl (by kernel_rfl) (by kernel_rfl) (by kernel_rfl) (fun _ _ _ h => h) (Or.inl ⟨by kernel_rfl, fun w _ => by go_simp⟩) S2 ?_
                  simp only [Act.put, List.getElem_toArray, List.getElem_cons_zero, List.getElem_cons_succ, List.setIfInBounds_toArray, List.set_cons_zero, List.set_cons_succ]
                  refine wpAnyH_take (i := 15) (v := .pointer (some (a.add (r * 2)))) rfl (by kernel_rfl) (by kernel_rfl) (by kernel_rfl) (fun _ _ _ h => h) (Or.inl ⟨by kernel_rfl, fun w _ => by go_simp⟩) S2 ?_
                  simp only [Act.put, List.getElem_toArray, List.getElem_cons_zero, List.getElem_cons_succ, List.setIfInBounds_toArray, List.set_cons_zero, List.set_cons_succ]
                  refine wpAnyH_take (i := 16) (v := .pointer (some (a.add (r * 2)))) rfl (by kernel_rfl) (by kernel_rfl) (by kernel_rfl) (fun _ _ _ h => h) (Or.inl ⟨by kernel_rfl, fun w _ => by go_simp⟩) S2 ?_
                  simp only [Act.put, List.getElem_toArray, List.getElem_cons_zero, List.getElem_cons_succ, List.setIfInBounds_toArray, List.set_cons_zero, List.set_cons_succ]
                  refine wpAnyH_take (i := 17) (v := .string F.n) rfl (by kernel_rfl) (by kernel_rfl) (by kernel_rfl) (fun _ _ _ h => h) (yields_one (ty := 9) (fun w => by kernel_rfl) (.tmp 58) (by kernel_rfl) (by kernel_rfl) (by kernel_rfl) (fun w h => first_cell (h.2.2 0 _ rfl))) S2 ?_
                  simp only [Act.put, List.getElem_toArray, List.getElem_cons_zero, List.getElem_cons_succ, List.setIfInBounds_toArray, List.set_cons_zero, List.set_cons_succ]
                  refine wpAnyH_take (i := 18) (v := .pointer (some ⟨g1, 2, none⟩)) rfl (by kernel_rfl) (by kernel_rfl) (by kernel_rfl) (fun _ _ _ h => h) (Or.inl ⟨by kernel_rfl, fun w _ => by go_simp⟩) S2 ?_
                  simp only [Act.put, List.getElem_toArray, List.getElem_cons_zero, List.getElem_cons_succ, List.setIfInBounds_toArray, List.set_cons_zero, List.set_cons_succ]
                  refine wpAnyH_take (i := 19) (v := .slice (some a) es.length c) rfl (by kernel_rfl) (by kernel_rfl) (by kernel_rfl) (fun _ _ _ h => h) (yields_one (ty := 64) (fun w => by kernel_rfl) (.tmp 60) (by kernel_rfl) (by kernel_rfl) (by kernel_rfl) (fun w h => h.1)) S2 ?_
                  simp only [Act.put, List.getElem_toArray, List.getElem_cons_zero, List.getElem_cons_succ, List.setIfInBounds_toArray, List.set_cons_zero, List.set_cons_succ]
                  refine wpAnyH_take (i := 20) (v := .int .i64 ((r + 1 : Nat) : Int)) rfl (by kernel_rfl) (by kernel_rfl) (by kernel_rfl) (fun _ _ _ h => h) (Or.inl ⟨by kernel_rfl, fun w _ => by go_simp⟩) S2 ?_
                  simp only [Act.put, List.getElem_toArray, List.getElem_cons_zero, List.getElem_cons_succ, List.setIfInBounds_toArray, List.set_cons_zero, List.set_cons_succ]
                  refine wpAnyH_take (i := 21) (v := .pointer (some (a.add ((r + 1) * 2)))) rfl (by kernel_rfl) (by kernel_rfl) (by kernel_rfl) (fun _ _ _ h => h) (Or.inl ⟨by kernel_rfl, fun w _ => by go_simp⟩) S2 ?_
                  simp only [Act.put, List.getElem_toArray, List.getElem_cons_zero, List.getElem_cons_succ, List.setIfInBounds_toArray, List.set_cons_zero, List.set_cons_succ]
                  refine wpAnyH_take (i := 22) (v := .pointer (some (a.add ((r + 1) * 2)))) rfl (by kernel_rfl) (by kernel_rfl) (by kernel_rfl) (fun _ _ _ h => h) (Or.inl ⟨by kernel_rfl, fun w _ => by go_simp⟩) S2 ?_
                  simp only [Act.put, List.getElem_toArray, List.getElem_cons_zero, List.getElem_cons_succ, List.setIfInBounds_toArray, List.set_cons_zero, List.set_cons_succ]
                  refine wpAnyH_take (i := 23) (v := .string E.n) rfl (by kernel_rfl) (by kernel_rfl) (by kernel_rfl) (fun _ _ _ h => h) (yields_one (ty := 9) (fun w => by kernel_rfl) (.tmp 64) (by kernel_rfl) (by kernel_rfl) (by kernel_rfl) (fun w h => first_cell (h.2.1 0 _ rfl))) S2 ?_
                  simp only [Act.put, List.getElem_toArray, List.getElem_cons_zero, List.getElem_cons_succ, List.setIfInBounds_toArray, List.set_cons_zero, List.set_cons_succ]
                  refine wpAnyH_take (i := 24) (v := .bool false) rfl (by kernel_rfl) (by kernel_rfl) (by kernel_rfl) (fun _ _ _ h => h) (Or.inl ⟨by kernel_rfl, fun w _ => by go_simp⟩) S2 ?_
                  simp only [Act.put, List.getElem_toArray, List.getElem_cons_zero, List.getElem_cons_succ, List.setIfInBounds_toArray, List.set_cons_zero, List.set_cons_succ]
                  refine wpAnyH_take (i := 25) (v := .bool false) rfl (by kernel_rfl) (by kernel_rfl) (by kernel_rfl) (fun _ _ _ h => h) (Or.inl ⟨by kernel_rfl, fun w _ => by go_simp⟩) S2 ?_
                  simp only [Act.put, List.getElem_toArray, List.getElem_cons_zero, List.getElem_cons_succ, List.setIfInBounds_toArray, List.set_cons_zero, List.set_cons_succ]
                  refine wpAnyH_take (i := 26) (v := .bool false) rfl (by kernel_rfl) (by kernel_rfl) (by kernel_rfl) (fun _ _ _ h => h) (Or.inl ⟨by kernel_rfl, fun w _ => by go_simp⟩) S2 ?_
                  simp only [Act.put, List.getElem_toArray, List.getElem_cons_zero, List.getElem_cons_succ, List.setIfInBounds_toArray, List.set_cons_zero, List.set_cons_succ]
                  refine wpAnyH_done (by kernel_rfl) ?_ _
                  clear S1 S2
                  go_wp2_with fail
                  go_roundg g
                  case measure => omega
                  case rel => exact ⟨r + 1 + 1, by omega, by go_num, Lib.hid (KS0.out _ T2.out), HG2⟩
                | false =>
                  obtain rfl : D = false := HD.out.symm.trans (decide_eq_false fun h => by
                    have h2 := (h.2.2.2 (r + 1) hlt).2 (by omega)
                    rw [Nat.add_sub_cancel, HE.out, HF.out, HL.out] at h2
                    cases h2)
                  refine wp_region_held_drew (S := (fun w' => w'.cell? ⟨g1, 2, none⟩ = some (.slice (some a) es.length c) ∧ (∀ (j : Nat) u, ([.string E.n, .int .i64 E.i] : List Value)[j]? = some u → w'.cell? ((a.add ((r + 1) * 2)).add j) = some u) ∧ ∀ (j : Nat) u, ([.string F.n, .int .i64 F.i] : List Value)[j]? = some u → w'.cell? ((a.add (r * 2)).add j) = some u)) (by kernel_rfl) S1 (fun _ => ?_)
                  refine wpAnyH_take (i := 0) (v := .pointer (some ⟨g1, 2, none⟩)) rfl (by kernel_rfl) (by kernel_rfl) (by kernel_rfl) (fun _ _ _ h => h) (Or.inl ⟨by kernel_rfl, fun w _ => by go_simp⟩) S1 ?_
                  simp only [Act.put, List.getElem_toArray, List.getElem_cons_zero, List.setIfInBounds_toArray, List.set_cons_zero, List.set_cons_succ]
                  refine wpAnyH_take (i := 1) (v := .slice (some a) es.length c) rfl (by kernel_rfl) (by kernel_rfl) (by kernel_rfl) (fun _ _ _ h => h) (yields_one (ty := 64) (fun w => by kernel_rfl) (.tmp 42) (by kernel_rfl) (by kernel_rfl) (by kernel_rfl) (fun w h => h.1)) S1 ?_
                  simp only [Act.put, List.getElem_toArray, List.getElem_cons_zero, List.getElem_cons_succ, List.setIfInBounds_toArray, List.set_cons_zero, List.set_cons_succ]
                  refine wpAnyH_take (i := 2) (v := .int .i64 (((r + 1) : Nat) : Int)) rfl (by kernel_rfl) (by kernel_rfl) (by kernel_rfl) (fun _ _ _ h => h) (Or.inl ⟨by kernel_rfl, fun w _ => by go_simp⟩) S1 ?_
                  simp only [Act.put, List.getElem_toArray, List.getElem_cons_zero, List.getElem_cons_succ, List.setIfInBounds_toArray, List.set_cons_zero, List.set_cons_succ]
                  refine wpAnyH_take (i := 3) (v := .pointer (some (a.add ((r + 1) * 2)))) rfl (by kernel_rfl) (by kernel_rfl) (by kernel_rfl) (fun _ _ _ h => h) (Or.inl ⟨by kernel_rfl, fun w _ => by go_simp⟩) S1 ?_
                  simp only [Act.put, List.getElem_toArray, List.getElem_cons_zero, List.getElem_cons_succ, List.setIfInBounds_toArray, List.set_cons_zero, List.set_cons_succ]
                  refine wpAnyH_take (i := 4) (v := .agg #[.string E.n, .int .i64 E.i]) rfl (by kernel_rfl) (by kernel_rfl) (by kernel_rfl) (fun _ _ _ h => h) (yields_cells (q := a.add ((r + 1) * 2)) (row := [.string E.n, .int .i64 E.i]) aggE sizeE (.tmp 45) (by kernel_rfl) (by kernel_rfl) (by kernel_rfl) rfl (fun w h => h.2.1)) S1 ?_
                  simp only [Act.put, List.getElem_toArray, List.getElem_cons_zero, List.getElem_cons_succ, List.setIfInBounds_toArray, List.set_cons_zero, List.set_cons_succ]
                  refine wpAnyH_ready (rs := [5]) (by kernel_rfl) (by simp) (AllReadyH.cons rfl (fun K hK => ?_) AllReadyH.nil)
                  go_simp
                  ((with_reducible refine (KE.out _).mono ?_); rintro e w2 ⟨rfl, b2⟩)
                  have T2 := Lib.hid (T1.out.trans (b2.mono T1.out.size))
                  have S2 := KS.out _ T2.out
                  refine hK _ _ S2 (fun _ => ?_)
                  clear hK K b2
                  refine wpAnyH_take (i := 6) (v := .bool false) rfl (by kernel_rfl) (by kernel_rfl) (by kernel_rfl) (fun _ _ _ h => h) (Or.inl ⟨by kernel_rfl, fun w _ => by go_simp⟩) S2 ?_
                  simp only [Act.put, List.getElem_toArray, List.getElem_cons_zero, List.getElem_cons_succ, List.setIfInBounds_toArray, List.set_cons_zero, List.set_cons_succ]
                  refine wpAnyH_take (i := 7) (v := .bool false) rfl (by kernel_rfl) (by kernel_rfl) (by kernel_rfl) (fun _ _ _ h => h) (Or.inl ⟨by kernel_rfl, fun w _ => by go_simp⟩) S2 ?_
                  simp only [Act.put, List.getElem_toArray, List.getElem_cons_zero, List.getElem_cons_succ, List.setIfInBounds_toArray, List.set_cons_zero, List.set_cons_succ]
                  refine wpAnyH_take (i := 8) (v := .int .i64 ((r + 1 : Nat) : Int)) rfl (by kernel_rfl) (by kernel_rfl) (by kernel_rfl) (fun _ _ _ h => h) (Or.inl ⟨by kernel_rfl, fun w _ => by go_simp⟩) S2 ?_
                  simp only [Act.put, List.getElem_toArray, List.getElem_cons_zero, List.getElem_cons_succ, List.setIfInBounds_toArray, List.set_cons_zero, List.set_cons_succ]
                  refine wpAnyH_take (i := 9) (v := .bool true) rfl (by kernel_rfl) (by kernel_rfl) (by kernel_rfl) (fun _ _ _ h => h) (Or.inl ⟨by kernel_rfl, fun w _ => by go_simp⟩) S2 ?_
                  simp only [Act.put, List.getElem_toArray, List.getElem_cons_zero, List.getElem_cons_succ, List.setIfInBounds_toArray, List.set_cons_zero, List.set_cons_succ]
                  refine wpAnyH_take (i := 10) (v := .bool true) rfl (by kernel_rfl) (by kernel_rfl) (by kernel_rfl) (fun _ _ _ h => h) (Or.inl ⟨by kernel_rfl, fun w _ => by go_simp⟩) S2 ?_
                  simp only [Act.put, List.getElem_toArray, List.getElem_cons_zero, List.getElem_cons_succ, List.setIfInBounds_toArray, List.set_cons_zero, List.set_cons_succ]
                  refine wpAnyH_take (i := 11) (v := .pointer (some ⟨g1, 2, none⟩)) rfl (by kernel_rfl) (by kernel_rfl) (by kernel_rfl) (fun _ _ _ h => h) (Or.inl ⟨by kernel_rfl, fun w _ => by go_simp⟩) S2 ?_
                  simp only [Act.put, List.getElem_toArray, List.getElem_cons_zero, List.getElem_cons_succ, List.setIfInBounds_toArray, List.set_cons_zero, List.set_cons_succ]
                  refine wpAnyH_take (i := 12) (v := .slice (some a) es.length c) rfl (by kernel_rfl) (by kernel_rfl) (by kernel_rfl) (fun _ _ _ h => h) (yields_one (ty := 64) (fun w => by kernel_rfl) (.tmp 53) (by kernel_rfl) (by kernel_rfl) (by kernel_rfl) (fun w h => h.1)) S2 ?_
                  simp only [Act.put, List.getElem_toArray, List.getElem_cons_zero, List.getElem_cons_succ, List.setIfInBounds_toArray, List.set_cons_zero, List.set_cons_succ]
                  refine wpAnyH_take (i := 13) (v := .int .i64 ((r + 1 : Nat) : Int)) rfl (by kernel_rfl) (by kernel_rfl) (by kernel_rfl) (fun _ _ _ h => h) (Or.inl ⟨by kernel_rfl, fun w _ => by go_simp⟩) S2 ?_
                  simp only [Act.put, List.getElem_toArray, List.getElem_cons_zero, List.getElem_cons_succ, List.setIfInBounds_toArray, List.set_cons_zero, List.set_cons_succ]
                  refine wpAnyH_take (i := 14) (v := .int .i64 (r : Int)) rfl (by kernel_rfl) (by kernel_rfl) (by kernel_rfl) (fun _ _ _ h => h) (Or.inl ⟨by kernel_rfl, fun w _ => by go_simp⟩) S2 ?_
                  simp only [Act.put, List.getElem_toArray, List.getElem_cons_zero, List.getElem_cons_succ, List.setIfInBounds_toArray, List.set_cons_zero, List.set_cons_succ]
                  refine wpAnyH_take (i := 15) (v := .pointer (some (a.add (r * 2)))) rfl (by kernel_rfl) (by kernel_rfl) (by kernel_rfl) (fun _ _ _ h => h) (Or.inl ⟨by kernel_rfl, fun w _ => by go_simp⟩) S2 ?_
                  simp only [Act.put, List.getElem_toArray, List.getElem_cons_zero, List.getElem_cons_succ, List.setIfInBounds_toArray, List.set_cons_zero, List.set_cons_succ]
                  refine wpAnyH_take (i := 16) (v := .pointer (some (a.add (r * 2)))) rfl (by kernel_rfl) (by kernel_rfl) (by kernel_rfl) (fun _ _ _ h => h) (Or.inl ⟨by kernel_rfl, fun w _ => by go_simp⟩) S2 ?_
                  simp only [Act.put, List.getElem_toArray, List.getElem_cons_zero, List.getElem_cons_succ, List.setIfInBounds_toArray, List.set_cons_zero, List.set_cons_succ]
                  refine wpAnyH_take (i := 17) (v := .string F.n) rfl (by kernel_rfl) (by kernel_rfl) (by kernel_rfl) (fun _ _ _ h => h) (yields_one (ty := 9) (fun w => by kernel_rfl) (.tmp 58) (by kernel_rfl) (by kernel_rfl) (by kernel_rfl) (fun w h => first_cell (h.2.2 0 _ rfl))) S2 ?_
                  simp only [Act.put, List.getElem_toArray, List.getElem_cons_zero, List.getElem_cons_succ, List.setIfInBounds_toArray, List.set_cons_zero, List.set_cons_succ]
                  refine wpAnyH_take (i := 18) (v := .pointer (some ⟨g1, 2, none⟩)) rfl (by kernel_rfl) (by kernel_rfl) (by kernel_rfl) (fun _ _ _ h => h) (Or.inl ⟨by kernel_rfl, fun w _ => by go_simp⟩) S2 ?_
                  simp only [Act.put, List.getElem_toArray, List.getElem_cons_zero, List.getElem_cons_succ, List.setIfInBounds_toArray, List.set_cons_zero, List.set_cons_succ]
                  refine wpAnyH_take (i := 19) (v := .slice (some a) es.length c) rfl (by kernel_rfl) (by kernel_rfl) (by kernel_rfl) (fun _ _ _ h => h) (yields_one (ty := 64) (fun w => by kernel_rfl) (.tmp 60) (by kernel_rfl) (by kernel_rfl) (by kernel_rfl) (fun w h => h.1)) S2 ?_
                  simp only [Act.put, List.getElem_toArray, List.getElem_cons_zero, List.getElem_cons_succ, List.setIfInBounds_toArray, List.set_cons_zero, List.set_cons_succ]
                  refine wpAnyH_take (i := 20) (v := .int .i64 ((r + 1 : Nat) : Int)) rfl (by kernel_rfl) (by kernel_rfl) (by kernel_rfl) (fun _ _ _ h => h) (Or.inl ⟨by kernel_rfl, fun w _ => by go_simp⟩) S2 ?_
                  simp only [Act.put, List.getElem_toArray, List.getElem_cons_zero, List.getElem_cons_succ, List.setIfInBounds_toArray, List.set_cons_zero, List.set_cons_succ]
                  refine wpAnyH_take (i := 21) (v := .pointer (some (a.add ((r + 1) * 2)))) rfl (by kernel_rfl) (by kernel_rfl) (by kernel_rfl) (fun _ _ _ h => h) (Or.inl ⟨by kernel_rfl, fun w _ => by go_simp⟩) S2 ?_
                  simp only [Act.put, List.getElem_toArray, List.getElem_cons_zero, List.getElem_cons_succ, List.setIfInBounds_toArray, List.set_cons_zero, List.set_cons_succ]
                  refine wpAnyH_take (i := 22) (v := .pointer (some (a.add ((r + 1) * 2)))) rfl (by kernel_rfl) (by kernel_rfl) (by kernel_rfl) (fun _ _ _ h => h) (Or.inl ⟨by kernel_rfl, fun w _ => by go_simp⟩) S2 ?_
                  simp only [Act.put, List.getElem_toArray, List.getElem_cons_zero, List.getElem_cons_succ, List.setIfInBounds_toArray, List.set_cons_zero, List.set_cons_succ]
                  refine wpAnyH_take (i := 23) (v := .string E.n) rfl (by kernel_rfl) (by kernel_rfl) (by kernel_rfl) (fun _ _ _ h => h) (yields_one (ty := 9) (fun w => by kernel_rfl) (.tmp 64) (by kernel_rfl) (by kernel_rfl) (by kernel_rfl) (fun w h => first_cell (h.2.1 0 _ rfl))) S2 ?_
                  simp only [Act.put, List.getElem_toArray, List.getElem_cons_zero, List.getElem_cons_succ, List.setIfInBounds_toArray, List.set_cons_zero, List.set_cons_succ]
                  refine wpAnyH_take (i := 24) (v := .bool true) rfl (by kernel_rfl) (by kernel_rfl) (by kernel_rfl) (fun _ _ _ h => h) (Or.inl ⟨by kernel_rfl, fun w _ => by go_simp⟩) S2 ?_
                  simp only [Act.put, List.getElem_toArray, List.getElem_cons_zero, List.getElem_cons_succ, List.setIfInBounds_toArray, List.set_cons_zero, List.set_cons_succ]
                  refine wpAnyH_take (i := 25) (v := .bool true) rfl (by kernel_rfl) (by kernel_rfl) (by kernel_rfl) (fun _ _ _ h => h) (Or.inl ⟨by kernel_rfl, fun w _ => by go_simp⟩) S2 ?_
                  simp only [Act.put, List.getElem_toArray, List.getElem_cons_zero, List.getElem_cons_succ, List.setIfInBounds_toArray, List.set_cons_zero, List.set_cons_succ]
                  refine wpAnyH_take (i := 26) (v := .bool true) rfl (by kernel_rfl) (by kernel_rfl) (by kernel_rfl) (fun _ _ _ h => h) (Or.inl ⟨by kernel_rfl, fun w _ => by go_simp⟩) S2 ?_
                  simp only [Act.put, List.getElem_toArray, List.getElem_cons_zero, List.getElem_cons_succ, List.setIfInBounds_toArray, List.set_cons_zero, List.set_cons_succ]
                  refine wpAnyH_done (by kernel_rfl) ?_ _
                  clear S1 S2
                  go_wp2_with fail
                  go_ret
                  exact ⟨rfl, HB.out.trans ((KS0.out _ T2.out).mono HB.out.size)⟩
      · obtain rfl : D = false := HD.out.symm.trans (decide_eq_false fun h => h3 h.2.2.1)
        have i3 : (8 : Int) < (es.length : Int) := by omega
        subst h1
        subst h2
        clear h3
        go_enter Try.func69, Try.ntmps69
        go_wp2_with fail
        go_ret
        exact ⟨rfl, HB.out⟩
    · obtain rfl : D = false := HD.out.symm.trans (decide_eq_false fun h => h2 h.2.1)
      have i2 : (z != 0) = true := by simpa using h2
      subst h1
      clear h2
      go_enter Try.func69, Try.ntmps69
      go_wp2_with fail
      go_ret
      exact ⟨rfl, HB.out⟩
  · obtain rfl : D = false := HD.out.symm.trans (decide_eq_false fun h => h1 h.1)
    have i2 : (k != 2) = true := by simpa using h1
    clear h1
    go_enter Try.func69, Try.ntmps69
    go_wp2_with fail
    go_ret
    exact ⟨rfl, HB.out⟩
set_option maxHeartbeats 4000000 in
set_option maxRecDepth 100000 in
theorem irefRight_any (n : IN) (v : Value) (w : World) (hv : Ents w w.heap.size v n.es) :
    Calls Try.prog 69 #[.agg #[.int .i64 n.k, .int .i64 n.z, v]] w fun e w' => e = .returned (.bool (decide n.ok)) ∧ Below w.heap.size w w' := by
  by_cases hk : n.k = 1
  · have hd : n.ok ↔ n.file := ⟨fun h => h.elim id fun h => absurd (hk.symm.trans h.1) (by decide), .inl⟩
    rw [decide_eq_decide.2 hd]
    obtain ⟨A, c, rfl, hc, hm⟩ := hv.shape
    have HB := Lib.hid ((Below.refl w.heap.size w).alloc (Nat.le_refl _) (.cells #[.int .i64 n.k, .int .i64 n.z, .slice A n.es.length c] 66))
    obtain ⟨k, z, es⟩ := n
    simp only at hc HB hk ⊢
    subst hk
    by_cases h2 : 0 ≤ z
    · by_cases h3 : z ≤ 768
      · by_cases h4 : es.length = 0
        · rw [decide_eq_true (show IN.file ⟨1, z, es⟩ from ⟨rfl, h2, h3, h4⟩)]
          rw [h4] at HB ⊢
          clear h4 hc
          go_enter Try.func69, Try.ntmps69
          go_wp2
          go_ret
          exact ⟨rfl, HB.out⟩
        · rw [decide_eq_false (show ¬ IN.file ⟨1, z, es⟩ from fun h => h4 h.2.2.2)]
          have i4 : ((es.length : Int) == 0) = false := beq_eq_false_iff_ne.2 (by omega)
          clear h4
          go_enter Try.func69, Try.ntmps69
          go_wp2
          go_ret
          exact ⟨by first | rfl | simp_all, HB.out⟩
      · rw [decide_eq_false (show ¬ IN.file ⟨1, z, es⟩ from fun h => h3 h.2.2.1)]
        go_enter Try.func69, Try.ntmps69
        go_wp2
        go_ret
        exact ⟨by first | rfl | simp_all, HB.out⟩
    · rw [decide_eq_false (show ¬ IN.file ⟨1, z, es⟩ from fun h => h2 h.2.1)]
      go_enter Try.func69, Try.ntmps69
      go_wp2
      go_ret
      exact ⟨by first | rfl | simp_all, HB.out⟩
  · have hd : n.ok ↔ n.dir := ⟨fun h => h.elim (fun h => absurd h.1 hk) id, .inr⟩
    rw [decide_eq_decide.2 hd]
    exact refRight_dir n v w hv hk
end Go.Proofs.Ytppodbijdhcclaa

/- What the document's Write of an inode answers: its bytes. No condition but that the entries are there. -/
namespace Go.Proofs.Ytppodbijdhcclaa
open Go.RowKit Go.Shelf
theorem own_new {e : TypeId} (w : World) (base : Nat) (hb : base ≤ w.heap.size) (cs : Array Value) (l : List UInt8) (h : cs.toList = bv l) (hl : l.length ≤ maxLen) (n : Nat) (hn : n = l.length) :
    Own e (w.alloc (.cells cs e)) base (.slice (some ⟨w.heap.size, 0, none⟩) n n) l := by
  subst hn
  have hs : cs.size = l.length := by rw [← Array.length_toList, h, bv_length]
  exact ⟨by simp [bv_length], .inr ⟨w.heap.size, l.length, cs, rfl, hb, heap_alloc_new w _, Nat.le_refl _, hl, by omega, by rw [h, Nat.mul_one, List.take_of_length_le (by rw [bv_length]; exact Nat.le_refl _)]⟩⟩
def wbytes (n : IN) : List UInt8 := if n.ok then n.bytes else []
def wcode (n : IN) : Int := if n.ok then 0 else 1
theorem infoB' : ∃ ti, Try.prog.info? 5 = some ti ∧ ti.zero = some (.int .u8 0) ∧ ti.size = 1 ∧ ti.bytes = 1 := by
  have h : (Try.prog.info? 5).map (fun i => (i.zero, i.size, i.bytes)) = some (some (.int .u8 0), 1, 1) := by kernel_rfl
  cases hi : Try.prog.info? 5 with
  | none => rw [hi] at h; cases h
  | some ti =>
    rw [hi] at h
    simp only [Option.map_some, Option.some.injEq, Prod.mk.injEq] at h
    exact ⟨ti, rfl, h.1, h.2.1, h.2.2⟩
theorem wrap_u8_id {n : Nat} (h : n < 256) : IntKind.u8.wrap (n : Int) = (n : Int) := by
  have h2 : IntKind.u8.wrap (n : Int) = (n : Int) % 256 := by simp [IntKind.wrap, IntKind.bits, IntKind.signed]
  omega
theorem strCells_bv (s : ByteArray) : Go.Lib.strCells s = bv s.data.toList := rfl
theorem ofNat_toInt {n : Nat} (h : n < 256) : ((UInt8.ofNat n).toNat : Int) = (n : Int) := by
  rw [UInt8.toNat_ofNat']
  omega
set_option maxHeartbeats 8000000 in
set_option maxRecDepth 100000 in
theorem refWrite_no (n : IN) (v : Value) (w : World) (hv : Ents w w.heap.size v n.es) (h : ¬ n.ok) :
    Calls Try.prog 68 #[.agg #[.int .i64 n.k, .int .i64 n.z, v]] w fun e w' => ∃ g c, e = .returned (.tuple #[.slice (some ⟨g, 0, none⟩) 0 c, .int .i64 1]) ∧ Own 5 w' w.heap.size (.slice (some ⟨g, 0, none⟩) 0 c) [] ∧ Below w.heap.size w w' := by
  obtain ⟨A, c, rfl, hc, hm⟩ := hv.shape
  have HB := Lib.hid ((Below.refl w.heap.size w).alloc (Nat.le_refl _) (.cells #[.int .i64 n.k, .int .i64 n.z, .slice A n.es.length c] 66))
  have KC := Lib.hid (irefRight_any n _ _ (hv.after HB.out))
  rw [decide_eq_false h] at KC
  obtain ⟨W, hW⟩ : ∃ W, W = w.alloc (.cells #[.int .i64 n.k, .int .i64 n.z, .slice A n.es.length c] 66) := ⟨_, rfl⟩
  clear hv h
  go_enter Try.func68, Try.ntmps68
  rw [← hW] at HB KC
  go_wp2_with fail
  rw [← hW]
  refine KC.out.mono ?_
  rintro e w1 ⟨rfl, h1⟩
  have T1 := HB.out.trans (h1.mono HB.out.size)
  have O1 := Lib.hid (Own.made (e := 5) (w := w1) (base := w.heap.size) #[] 0 T1.size (by simp [maxLen]) rfl w1.heap.size rfl)
  have HT := Lib.hid (T1.alloc T1.size (.cells #[] 5))
  clear T1 h1 KC
  go_wp2_with fail
  go_ret2
  exact ⟨_, _, rfl, O1.out, HT.out⟩
set_option maxHeartbeats 8000000 in
set_option maxRecDepth 100000 in
theorem refWrite_file (n : IN) (v : Value) (w : World) (hv : Ents w w.heap.size v n.es) (h : n.file) :
    Calls Try.prog 68 #[.agg #[.int .i64 n.k, .int .i64 n.z, v]] w fun e w' => ∃ g c, e = .returned (.tuple #[.slice (some ⟨g, 0, none⟩) n.bytes.length c, .int .i64 0]) ∧ Own 5 w' w.heap.size (.slice (some ⟨g, 0, none⟩) n.bytes.length c) n.bytes ∧ Below w.heap.size w w' := by
  obtain ⟨A, c, rfl, hc, hm⟩ := hv.shape
  have HB := Lib.hid ((Below.refl w.heap.size w).alloc (Nat.le_refl _) (.cells #[.int .i64 n.k, .int .i64 n.z, .slice A n.es.length c] 66))
  have KC := Lib.hid (irefRight_any n _ _ (hv.after HB.out))
  rw [decide_eq_true (show n.ok from .inl h)] at KC
  have BX := Lib.hid (fun w' => box3 w (.int .i64 n.k) (.int .i64 n.z) (.slice A n.es.length c) 66 (w' := w'))
  obtain ⟨W, hW⟩ : ∃ W, W = w.alloc (.cells #[.int .i64 n.k, .int .i64 n.z, .slice A n.es.length c] 66) := ⟨_, rfl⟩
  obtain ⟨k, z, es⟩ := n
  obtain ⟨h1, h2, h3, h4⟩ := h
  simp only at h1 h2 h3 h4
  subst h1
  obtain ⟨q, rfl⟩ : ∃ q : Nat, z = q := ⟨z.toNat, by omega⟩
  obtain ⟨q0, hq0⟩ : ∃ q0, q % 256 = q0 := ⟨_, rfl⟩
  obtain ⟨q1, hq1⟩ : ∃ q1, q / 256 = q1 := ⟨_, rfl⟩
  have hnb : IN.bytes ⟨1, q, es⟩ = [UInt8.ofNat 1, UInt8.ofNat q0, UInt8.ofNat q1] := by
    have e0 : UInt8.ofNat q = UInt8.ofNat q0 := by
      apply UInt8.toNat_inj.1
      rw [UInt8.toNat_ofNat', UInt8.toNat_ofNat']
      omega
    unfold IN.bytes
    rw [if_pos rfl, ← hq1, ← e0]
    rfl
  have hcs : (#[.int .u8 1, .int .u8 (q0 : Int), .int .u8 (q1 : Int)] : Array Value).toList = bv [UInt8.ofNat 1, UInt8.ofNat q0, UInt8.ofNat q1] := by
    show _ = [Value.int .u8 ((UInt8.ofNat 1).toNat : Int), .int .u8 ((UInt8.ofNat q0).toNat : Int), .int .u8 ((UInt8.ofNat q1).toNat : Int)]
    rw [ofNat_toInt (by omega), ofNat_toInt (by omega), ofNat_toInt (by omega)]
    rfl
  have HCS := Lib.hid hcs
  have i1 : (q : Int) % 256 = (q0 : Int) := by omega
  have i2 : (q : Int) / 256 = (q1 : Int) := by omega
  have u0 : (q0 : Int) < 256 := by omega
  have u1 : (q1 : Int) < 256 := by omega
  have i0 : ((1 : Int) == 1) = true := rfl
  have uq : (q : Int) ≤ 768 := by omega
  rw [hnb]
  simp only [List.length_cons, List.length_nil]
  obtain ⟨L, hL⟩ : ∃ L, [UInt8.ofNat 1, UInt8.ofNat q0, UInt8.ofNat q1] = L := ⟨_, rfl⟩
  have HLL : Hid (L.length = 3) := Lib.hid (by rw [← hL]; rfl)
  rw [hL] at HCS ⊢
  simp only at HB KC BX hW hc
  clear hv h2 h3 h4 hnb hcs hL hq0 hq1
  go_enter Try.func68, Try.ntmps68
  rw [← hW] at HB KC BX
  go_wp2_with fail
  rw [← hW]
  obtain ⟨g1, hg1⟩ : ∃ g1, w.heap.size = g1 := ⟨_, rfl⟩
  have HG1 := Lib.hid hg1
  rw [hg1] at BX ⊢
  clear hW hg1
  refine KC.out.mono ?_
  rintro e w1 ⟨rfl, b1⟩
  obtain ⟨c11, c12, c13⟩ := BX.out _ b1
  have T1 := HB.out.trans (b1.mono HB.out.size)
  have O1 := Lib.hid (own_new (e := 5) w1 w.heap.size T1.size #[.int .u8 1, .int .u8 (q0 : Int), .int .u8 (q1 : Int)] L HCS.out (by rw [HLL.out]; simp [maxLen]) 3 HLL.out.symm)
  have HT := Lib.hid (T1.alloc T1.size (.cells #[.int .u8 1, .int .u8 (q0 : Int), .int .u8 (q1 : Int)] 5))
  clear T1 b1 KC
  go_wp2_with fail
  go_ret2
  exact ⟨_, _, rfl, O1.out, HT.out⟩
set_option maxHeartbeats 16000000 in
set_option maxRecDepth 100000 in
theorem refWrite_dir (n : IN) (v : Value) (w : World) (hv : Ents w w.heap.size v n.es) (h : n.dir) :
    Calls Try.prog 68 #[.agg #[.int .i64 n.k, .int .i64 n.z, v]] w fun e w' => ∃ g c, e = .returned (.tuple #[.slice (some ⟨g, 0, none⟩) n.bytes.length c, .int .i64 0]) ∧ Own 5 w' w.heap.size (.slice (some ⟨g, 0, none⟩) n.bytes.length c) n.bytes ∧ Below w.heap.size w w' := by
  obtain ⟨A, c, rfl, hc, hm⟩ := hv.shape
  have HB := Lib.hid ((Below.refl w.heap.size w).alloc (Nat.le_refl _) (.cells #[.int .i64 n.k, .int .i64 n.z, .slice A n.es.length c] 66))
  have KC := Lib.hid (irefRight_any n _ _ (hv.after HB.out))
  have HBW := Lib.hid (hv.after HB.out)
  rw [decide_eq_true (show n.ok from .inr h)] at KC
  have BX := Lib.hid (fun w' => box3 w (.int .i64 n.k) (.int .i64 n.z) (.slice A n.es.length c) 66 (w' := w'))
  obtain ⟨W, hW⟩ : ∃ W, W = w.alloc (.cells #[.int .i64 n.k, .int .i64 n.z, .slice A n.es.length c] 66) := ⟨_, rfl⟩
  have H1W : Hid (w.heap.size < W.heap.size) := Lib.hid (by rw [hW]; simp)
  obtain ⟨k, z, es⟩ := n
  obtain ⟨h1, h2, h3, h4⟩ := h
  simp only at h1 h2 h3 h4
  subst h1
  subst h2
  obtain ⟨N, hN⟩ : ∃ N, es.length = N := ⟨_, rfl⟩
  have hnb : IN.bytes ⟨2, 0, es⟩ = [UInt8.ofNat 2, UInt8.ofNat N] ++ es.flatMap ebytes := by unfold IN.bytes; rw [if_neg (by simp), ← hN]; rfl
  have HGA := Lib.hid (good_all h4)
  have HFL := Lib.hid (flat_bytes_le es (good_all h4))
  have hcs : (#[.int .u8 2, .int .u8 (N : Int)] : Array Value).toList = bv [UInt8.ofNat 2, UInt8.ofNat N] := by
    show _ = [Value.int .u8 ((UInt8.ofNat 2).toNat : Int), .int .u8 ((UInt8.ofNat N).toNat : Int)]
    rw [ofNat_toInt (by omega), ofNat_toInt (by omega)]
    rfl
  have HCS := Lib.hid hcs
  have i0 : ((2 : Int) == 1) = false := rfl
  have uN : (N : Int) ≤ 8 := by omega
  rw [hnb]
  obtain ⟨NB, hNB⟩ : ∃ NB, [UInt8.ofNat 2, UInt8.ofNat N] ++ es.flatMap ebytes = NB := ⟨_, rfl⟩
  obtain ⟨M, hM⟩ : ∃ M, NB.length = M := ⟨_, rfl⟩
  rw [hNB, hM]
  have HNB := Lib.hid hNB
  have HM := Lib.hid hM
  have HM0 : Hid (0 < M) := Lib.hid (by rw [← hM, ← hNB]; simp)
  clear hNB hM
  obtain ⟨ti, hi, hz, hs, hby⟩ := infoB'
  simp only at HB KC BX hW hc HBW
  rw [hN] at HB KC BX hW hc HBW ⊢
  have HN := Lib.hid hN
  clear hv h3 h4 hnb hcs hN
  go_enter Try.func68, Try.ntmps68
  rw [← hW] at HB KC BX HBW
  go_wp2_with fail
  rw [← hW]
  obtain ⟨g1, hg1⟩ : ∃ g1, w.heap.size = g1 := ⟨_, rfl⟩
  have HG1 := Lib.hid hg1
  rw [hg1] at BX ⊢
  clear hW hg1
  refine KC.out.mono ?_
  rintro e w1 ⟨rfl, b1⟩
  obtain ⟨c11, c12, c13⟩ := BX.out _ b1
  have T0 : Below W.heap.size W w1 := b1
  have O1 := Lib.hid (own_new (e := 5) w1 W.heap.size T0.size #[.int .u8 2, .int .u8 (N : Int)] [UInt8.ofNat 2, UInt8.ofNat N] HCS.out (by simp [maxLen]) 2 rfl)
  have HT := Lib.hid (T0.alloc T0.size (.cells #[.int .u8 2, .int .u8 (N : Int)] 5))
  clear T0 b1 KC
  go_wp2_with fail
  clear c11 c12 c13
  go_loopg [4, 5] N (fun g s i wx => ∃ q : Nat, ∃ A4 m c4, ∃ L : List UInt8, q + g = N ∧ i = .int .i64 q ∧ s = .slice A4 m c4 ∧ Hid (m = L.length) ∧ Hid (Own 5 wx W.heap.size (.slice A4 m c4) L) ∧ Hid (Below W.heap.size W wx) ∧ Hid (L = [UInt8.ofNat 2, UInt8.ofNat N] ++ (es.take q).flatMap ebytes))
  case atStart => exact ⟨0, _, 2, _, _, by omega, rfl, rfl, Lib.hid rfl, O1, HT, Lib.hid (by simp)⟩
  case round =>
    obtain ⟨q, A4, m, c4, L, hq, rfl, rfl, hmL, hO, hB, hL⟩ := hrel
    have x2 := (BX.out _ hB.out).2.2
    cases gk with
    | zero =>
      obtain rfl : q = N := by omega
      have i4 : ¬ (q : Int) < (q : Int) := by omega
      clear hq
      go_wp2_with fail
      go_ret2
      have hL2 : L = NB := by rw [hL.out, List.take_of_length_le (by rw [HN.out]; exact Nat.le_refl _), HNB.out]
      have hO2 := hO.out
      obtain rfl : m = M := by rw [hmL.out, hL2, HM.out]
      rw [hL2] at hO2
      obtain ⟨x, rfl, _, _⟩ := hO2.addr (by rw [HM.out]; exact HM0.out)
      exact ⟨_, _, rfl, hO2.lower (by have := H1W.out; omega), HB.out.trans (hB.out.mono HB.out.size)⟩
    | succ g =>
      have hlt : q < es.length := by rw [HN.out]; omega
      have i4 : (q : Int) < (N : Int) := by omega
      have HE0 := Lib.hid (show es[q]? = some (atE es q) from atE_get hlt)
      obtain ⟨a, rfl, _, _⟩ := (HBW.out.below hB.out).elem HE0.out
      have hok := okE_facts (HGA.out (atE es q) (List.mem_of_getElem? HE0.out))
      obtain ⟨E, hE⟩ : ∃ E, atE es q = E := ⟨_, rfl⟩
      rw [hE] at hok HE0
      obtain ⟨en, ei⟩ := E
      obtain ⟨o1, o2, o3⟩ := hok
      simp only at o1 o2 o3
      obtain ⟨ei, rfl⟩ : ∃ x : Nat, ei = x := ⟨ei.toNat, by omega⟩
      have HS : Hid (∀ w', Below W.heap.size W w' → w'.cell? ⟨g1, 2, none⟩ = some (.slice (some a) N c) ∧ w'.cell? (a.add (q * 2)) = some (.string en) ∧ w'.cell? ((a.add (q * 2)).add 1) = some (.int .i64 (ei : Int))) := Lib.hid fun w' hb => by
        obtain ⟨a', e', _, hck⟩ := (HBW.out.below hb).elem HE0.out
        cases e'
        exact ⟨(BX.out _ hb).2.2, first_cell (hck 0 _ rfl), hck 1 _ rfl⟩
      have hm2 : m ≤ 114 := by
        have h5 := flat_bytes_le (es.take q) fun e he => HGA.out e (List.mem_of_mem_take he)
        rw [hmL.out, hL.out, List.length_append]
        have h6 : (es.take q).length ≤ q := List.length_take_le q es
        simp only [List.length_cons, List.length_nil]
        omega
      have u1 : (ei : Int) < 256 := by omega
      have u2 : (en.size : Int) < 256 := by omega
      have T1 := Lib.hid (hB.out.trans ((Below.refl wr.heap.size wr).mono hB.out.size)).drew
      have S1 := HS.out _ T1.out
      have HBV : Hid (bv [UInt8.ofNat ei, UInt8.ofNat en.size] = [.int .u8 (ei : Int), .int .u8 (en.size : Int)]) := Lib.hid (by
        show [Value.int .u8 ((UInt8.ofNat ei).toNat : Int), .int .u8 ((UInt8.ofNat en.size).toNat : Int)] = _
        rw [ofNat_toInt (by omega), ofNat_toInt (by omega)])
      clear hE
      go_wp2_with fail
      clear x2
      refine wp_region_held_drew (S := (fun w' => w'.cell? ⟨g1, 2, none⟩ = some (.slice (some a) N c) ∧ w'.cell? (a.add (q * 2)) = some (.string en) ∧ w'.cell? ((a.add (q * 2)).add 1) = some (.int .i64 (ei : Int)))) (by kernel_rfl) S1 (fun _ => ?_)
      refine wpAnyH_take (i := 0) (v := .slice A4 m c4) rfl (by kernel_rfl) (by kernel_rfl) (by kernel_rfl) (fun _ _ _ h => h) (Or.inl ⟨by kernel_rfl, fun w _ => by go_simp⟩) S1 ?_
      simp only [Act.put, List.getElem_toArray, List.getElem_cons_zero, List.setIfInBounds_toArray, List.set_cons_zero, List.set_cons_succ]
      refine wpAnyH_take (i := 1) (v := .pointer (some ⟨g1, 2, none⟩)) rfl (by kernel_rfl) (by kernel_rfl) (by kernel_rfl) (fun _ _ _ h => h) (Or.inl ⟨by kernel_rfl, fun w _ => by go_simp⟩) S1 ?_
      simp only [Act.put, List.getElem_toArray, List.getElem_cons_zero, List.getElem_cons_succ, List.setIfInBounds_toArray, List.set_cons_zero, List.set_cons_succ]
      refine wpAnyH_take (i := 2) (v := .slice (some a) N c) rfl (by kernel_rfl) (by kernel_rfl) (by kernel_rfl) (fun _ _ _ h => h) (yields_one (ty := 64) (fun w => by kernel_rfl) (.tmp 35) (by kernel_rfl) (by kernel_rfl) (by kernel_rfl) (fun w h => h.1)) S1 ?_
      simp only [Act.put, List.getElem_toArray, List.getElem_cons_zero, List.getElem_cons_succ, List.setIfInBounds_toArray, List.set_cons_zero, List.set_cons_succ]
      refine wpAnyH_take (i := 3) (v := .int .i64 (q : Int)) rfl (by kernel_rfl) (by kernel_rfl) (by kernel_rfl) (fun _ _ _ h => h) (Or.inl ⟨by kernel_rfl, fun w _ => by go_simp⟩) S1 ?_
      simp only [Act.put, List.getElem_toArray, List.getElem_cons_zero, List.getElem_cons_succ, List.setIfInBounds_toArray, List.set_cons_zero, List.set_cons_succ]
      refine wpAnyH_take (i := 4) (v := .pointer (some (a.add (q * 2)))) rfl (by kernel_rfl) (by kernel_rfl) (by kernel_rfl) (fun _ _ _ h => h) (Or.inl ⟨by kernel_rfl, fun w _ => by go_simp⟩) S1 ?_
      simp only [Act.put, List.getElem_toArray, List.getElem_cons_zero, List.getElem_cons_succ, List.setIfInBounds_toArray, List.set_cons_zero, List.set_cons_succ]
      refine wpAnyH_take (i := 5) (v := .pointer (some ((a.add (q * 2)).add 1))) rfl (by kernel_rfl) (by kernel_rfl) (by kernel_rfl) (fun _ _ _ h => h) (Or.inl ⟨by kernel_rfl, fun w _ => by go_simp⟩) S1 ?_
      simp only [Act.put, List.getElem_toArray, List.getElem_cons_zero, List.getElem_cons_succ, List.setIfInBounds_toArray, List.set_cons_zero, List.set_cons_succ]
      refine wpAnyH_take (i := 6) (v := .int .i64 (ei : Int)) rfl (by kernel_rfl) (by kernel_rfl) (by kernel_rfl) (fun _ _ _ h => h) (yields_one (ty := 3) (fun w => by kernel_rfl) (.tmp 39) (by kernel_rfl) (by kernel_rfl) (by kernel_rfl) (fun w h => h.2.2)) S1 ?_
      simp only [Act.put, List.getElem_toArray, List.getElem_cons_zero, List.getElem_cons_succ, List.setIfInBounds_toArray, List.set_cons_zero, List.set_cons_succ]
      refine wpAnyH_take (i := 7) (v := .int .u8 (ei : Int)) rfl (by kernel_rfl) (by kernel_rfl) (by kernel_rfl) (fun _ _ _ h => h) (Or.inl ⟨by kernel_rfl, fun w _ => by go_simp; exact wrap_u8_id (by omega)⟩) S1 ?_
      simp only [Act.put, List.getElem_toArray, List.getElem_cons_zero, List.getElem_cons_succ, List.setIfInBounds_toArray, List.set_cons_zero, List.set_cons_succ]
      refine wpAnyH_take (i := 8) (v := .pointer (some ⟨g1, 2, none⟩)) rfl (by kernel_rfl) (by kernel_rfl) (by kernel_rfl) (fun _ _ _ h => h) (Or.inl ⟨by kernel_rfl, fun w _ => by go_simp⟩) S1 ?_
      simp only [Act.put, List.getElem_toArray, List.getElem_cons_zero, List.getElem_cons_succ, List.setIfInBounds_toArray, List.set_cons_zero, List.set_cons_succ]
      refine wpAnyH_take (i := 9) (v := .slice (some a) N c) rfl (by kernel_rfl) (by kernel_rfl) (by kernel_rfl) (fun _ _ _ h => h) (yields_one (ty := 64) (fun w => by kernel_rfl) (.tmp 42) (by kernel_rfl) (by kernel_rfl) (by kernel_rfl) (fun w h => h.1)) S1 ?_
      simp only [Act.put, List.getElem_toArray, List.getElem_cons_zero, List.getElem_cons_succ, List.setIfInBounds_toArray, List.set_cons_zero, List.set_cons_succ]
      refine wpAnyH_take (i := 10) (v := .int .i64 (q : Int)) rfl (by kernel_rfl) (by kernel_rfl) (by kernel_rfl) (fun _ _ _ h => h) (Or.inl ⟨by kernel_rfl, fun w _ => by go_simp⟩) S1 ?_
      simp only [Act.put, List.getElem_toArray, List.getElem_cons_zero, List.getElem_cons_succ, List.setIfInBounds_toArray, List.set_cons_zero, List.set_cons_succ]
      refine wpAnyH_take (i := 11) (v := .pointer (some (a.add (q * 2)))) rfl (by kernel_rfl) (by kernel_rfl) (by kernel_rfl) (fun _ _ _ h => h) (Or.inl ⟨by kernel_rfl, fun w _ => by go_simp⟩) S1 ?_
      simp only [Act.put, List.getElem_toArray, List.getElem_cons_zero, List.getElem_cons_succ, List.setIfInBounds_toArray, List.set_cons_zero, List.set_cons_succ]
      refine wpAnyH_take (i := 12) (v := .pointer (some (a.add (q * 2)))) rfl (by kernel_rfl) (by kernel_rfl) (by kernel_rfl) (fun _ _ _ h => h) (Or.inl ⟨by kernel_rfl, fun w _ => by go_simp⟩) S1 ?_
      simp only [Act.put, List.getElem_toArray, List.getElem_cons_zero, List.getElem_cons_succ, List.setIfInBounds_toArray, List.set_cons_zero, List.set_cons_succ]
      refine wpAnyH_take (i := 13) (v := .string en) rfl (by kernel_rfl) (by kernel_rfl) (by kernel_rfl) (fun _ _ _ h => h) (yields_one (ty := 9) (fun w => by kernel_rfl) (.tmp 46) (by kernel_rfl) (by kernel_rfl) (by kernel_rfl) (fun w h => h.2.1)) S1 ?_
      simp only [Act.put, List.getElem_toArray, List.getElem_cons_zero, List.getElem_cons_succ, List.setIfInBounds_toArray, List.set_cons_zero, List.set_cons_succ]
      refine wpAnyH_take (i := 14) (v := .int .i64 (en.size : Int)) rfl (by kernel_rfl) (by kernel_rfl) (by kernel_rfl) (fun _ _ _ h => h) (Or.inl ⟨by kernel_rfl, fun w _ => by go_simp⟩) S1 ?_
      simp only [Act.put, List.getElem_toArray, List.getElem_cons_zero, List.getElem_cons_succ, List.setIfInBounds_toArray, List.set_cons_zero, List.set_cons_succ]
      refine wpAnyH_take (i := 15) (v := .int .u8 (en.size : Int)) rfl (by kernel_rfl) (by kernel_rfl) (by kernel_rfl) (fun _ _ _ h => h) (Or.inl ⟨by kernel_rfl, fun w _ => by go_simp; exact wrap_u8_id (by omega)⟩) S1 ?_
      simp only [Act.put, List.getElem_toArray, List.getElem_cons_zero, List.getElem_cons_succ, List.setIfInBounds_toArray, List.set_cons_zero, List.set_cons_succ]
      refine wpAnyH_ready (rs := [16]) (by kernel_rfl) (by simp) (AllReadyH.cons rfl (fun K hK => ?_) AllReadyH.nil)
      go_simp
      have T2 := Lib.hid ((hB.out.alloc hB.out.size (.cells #[.int .u8 (ei : Int), .int .u8 (en.size : Int)] 5)).drew)
      have O2 : Hid (Own 5 (wr.alloc (.cells #[.int .u8 (ei : Int), .int .u8 (en.size : Int)] 5)).drew W.heap.size (.slice A4 m c4) L) := Lib.hid ((hO.out.alloc (.cells #[.int .u8 (ei : Int), .int .u8 (en.size : Int)] 5)).kept (row := none) (only_of_below (Below.refl _ _).drew none) (by cases (Value.slice A4 m c4).ownBlock <;> simp))
      have D2 : Hid (Bytes (wr.alloc (.cells #[.int .u8 (ei : Int), .int .u8 (en.size : Int)] 5)).drew (wr.alloc (.cells #[.int .u8 (ei : Int), .int .u8 (en.size : Int)] 5)).drew.heap.size (.slice (some ⟨wr.heap.size, 0, none⟩) 2 2) [UInt8.ofNat ei, UInt8.ofNat en.size]) := Lib.hid (((own_new (e := 5) wr 0 (Nat.zero_le _) #[.int .u8 (ei : Int), .int .u8 (en.size : Int)] [UInt8.ofNat ei, UInt8.ofNat en.size] HBV.out.symm (by simp [maxLen]) 2 rfl).bytes (by simp [maxLen])).below (Below.refl _ _).drew)
      have S2 := HS.out _ T2.out
      obtain ⟨W2, hW2⟩ : ∃ W2, W2 = (wr.alloc (.cells #[.int .u8 (ei : Int), .int .u8 (en.size : Int)] 5)).drew := ⟨_, rfl⟩
      rw [← hW2] at T2 O2 D2 S2 ⊢
      obtain ⟨gx, hgx⟩ : ∃ gx, wr.heap.size = gx := ⟨_, rfl⟩
      rw [hgx] at D2 ⊢
      clear hW2 hgx
      refine hK _ _ S2 (fun _ => ?_)
      clear hK K
      refine wpAnyH_ready (rs := [17]) (by kernel_rfl) (by simp) (AllReadyH.cons rfl (fun K hK => ?_) AllReadyH.nil)
      refine step_append_bytes_by byteTys (by kernel_rfl) (.tmp 34) (.tmp 50) (by kernel_rfl) (by kernel_rfl) O2.out W2.heap.size (.slice (some ⟨gx, 0, none⟩) 2 2) [UInt8.ofNat ei, UInt8.ofNat en.size] (by kernel_rfl) D2.out (by rw [← hmL.out]; simp only [List.length_cons, List.length_nil]; omega) T2.out.size (m + 2) (by rw [← hmL.out]; rfl) ?_
      intro A9 c9 w9 O9 g9
      have HO9 := Lib.hid O9
      have HB9 := Lib.hid (T2.out.grown g9 T2.out.size fun x hx => (World.ownsRow.lt O2.out x hx).1)
      have S9 := HS.out _ HB9.out
      clear O9 g9
      refine hK _ _ S9 (fun _ => ?_)
      clear hK K
      refine wpAnyH_take (i := 18) (v := .slice A9 (m + 2) c9) rfl (by kernel_rfl) (by kernel_rfl) (by kernel_rfl) (fun _ _ _ h => h) (Or.inl ⟨by kernel_rfl, fun w _ => by go_simp⟩) S9 ?_
      simp only [Act.put, List.getElem_toArray, List.getElem_cons_zero, List.getElem_cons_succ, List.setIfInBounds_toArray, List.set_cons_zero, List.set_cons_succ]
      refine wpAnyH_done (by kernel_rfl) ?_ _
      obtain ⟨s91, s92, s93⟩ := S9
      clear S1 S2
      have HR9 : Hid (w9.ownsRow W.heap.size 5 1 (.slice A9 (m + 2) c9) (m + 2) (bv (L ++ [UInt8.ofNat ei, UInt8.ofNat en.size]))) := Lib.hid (by
        have h := HO9.out
        unfold Own at h
        rw [List.length_append, ← hmL.out] at h
        exact h)
      go_wp2_with (at_builtin; refine Go.Lib.wpList_append_own_string _ rfl (.tmp 52) (.tmp 58) 44 9 rfl W.heap.size 5 ti Try.underlying44 Try.underlying9 hi hz hs hby (.slice A9 (m + 2) c9) (m + 2) _ rfl HR9.out en rfl (by simp only [maxLen]; omega) (by omega) HB9.out.size ?_; intro v8 w8 O8 g8 e8)
      have O8b : Own 5 w8 W.heap.size v8 (L ++ [UInt8.ofNat ei, UInt8.ofNat en.size] ++ en.data.toList) := by
        unfold Own
        rw [List.length_append, List.length_append, ← hmL.out, bv_append, ← Lib.size_eq, ← strCells_bv]
        exact O8
      obtain ⟨A8, c8, rfl, _, _⟩ := O8b.shape
      obtain ⟨m8, hm8⟩ : ∃ m8, (L ++ [UInt8.ofNat ei, UInt8.ofNat en.size] ++ en.data.toList).length = m8 := ⟨_, rfl⟩
      rw [hm8] at O8b ⊢
      have HO8 := Lib.hid O8b
      have HM8 := Lib.hid hm8.symm
      have HB8 := Lib.hid (HB9.out.grown g8 HB9.out.size fun x hx => (World.ownsRow.lt HO9.out x hx).1)
      clear O8 O8b hm8 g8 e8
      go_roundg g
      case measure => omega
      case rel => exact ⟨q + 1, A8, m8, c8, _, by omega, by go_num, rfl, HM8, HO8, HB8, Lib.hid (by rw [take_snoc _ HE0.out, List.flatMap_append, hL.out, List.append_assoc, List.append_assoc]; simp [ebytes_eq])⟩
end Go.Proofs.Ytppodbijdhcclaa

/- What is read as an inode is written as the same bytes; when nothing is read. No condition. -/
namespace Go.Proofs.Ytppodbijdhcclaa
open Go.RowKit
theorem rEs_bad : ∀ (n : Nat) (l : List UInt8), (rEs n l true).2.2 = true
  | 0, _ => rfl
  | n + 1, l => by
    have h : rBad true l = true := by simp [rBad]
    simp only [rEs, h]
    exact rEs_bad n (rRest l)
theorem rEs_len : ∀ (n : Nat) (l : List UInt8) (b : Bool), (rEs n l b).1.length = n
  | 0, _, _ => rfl
  | n + 1, l, b => by simp only [rEs, List.length_cons, rEs_len n]
theorem ofNat_toNat (b : UInt8) : UInt8.ofNat b.toNat = b := by
  apply UInt8.toNat_inj.1
  rw [UInt8.toNat_ofNat']
  have := b.toNat_lt
  omega
theorem rEnt_fwd {l : List UInt8} (h : rBad false l = false) : ebytes (rEnt l) ++ rRest l = l ∧ 2 ≤ l.length := by
  match l with
  | [] => simp [rBad] at h
  | [a] => simp [rBad] at h
  | a :: b :: t =>
    have h1 : ¬ t.length < b.toNat := by
      unfold rBad at h
      simp only [List.drop_succ_cons, List.drop_zero, r1_cons, Bool.or_eq_false_iff, decide_eq_false_iff_not] at h
      exact h.2
    refine ⟨?_, by simp⟩
    rw [ebytes_eq]
    unfold rEnt rRest rTake
    simp only [List.drop_succ_cons, List.drop_zero, r1_cons]
    rw [if_pos (by omega)]
    have e1 : ((a.toNat : Int)).toNat = a.toNat := by omega
    have e2 : (⟨(t.take b.toNat).toArray⟩ : ByteArray).size = b.toNat := by
      rw [Lib.size_eq]
      show (t.take b.toNat).length = _
      rw [List.length_take]
      omega
    rw [e1, e2, ofNat_toNat, ofNat_toNat]
    show a :: b :: (t.take b.toNat ++ t.drop b.toNat) = _
    rw [List.take_append_drop]
theorem rEs_fwd : ∀ (n : Nat) (l : List UInt8), (rEs n l false).2.2 = false → l = (rEs n l false).1.flatMap ebytes ++ (rEs n l false).2.1
  | 0, l, _ => rfl
  | n + 1, l, h => by
    simp only [rEs] at h ⊢
    cases hb : rBad false l with
    | true =>
      rw [hb, rEs_bad] at h
      cases h
    | false =>
      rw [hb] at h
      have ih := rEs_fwd n (rRest l) h
      have hf := (rEnt_fwd hb).1
      rw [List.flatMap_cons, List.append_assoc, ← ih]
      exact hf.symm
theorem inoR_dir (a b : UInt8) (t : List UInt8) (ha : a.toNat = 2) : inoR (a :: b :: t) = if (rEs b.toNat t false).2.2 = false ∧ (rEs b.toNat t false).2.1 = [] ∧ IN.ok ⟨2, 0, (rEs b.toNat t false).1⟩ then some ⟨2, 0, (rEs b.toNat t false).1⟩ else none := by
  have hp : rPre (a :: b :: t) = (⟨2, 0, (rEs b.toNat t false).1⟩, (rEs b.toNat t false).2) := by
    unfold rPre
    rw [if_neg (by rw [r1_cons]; omega), if_pos (by rw [r1_cons]; exact ha)]
    simp only [List.drop_succ_cons, List.drop_zero, r1_cons, List.length_cons]
    rw [show (decide (t.length + 1 + 1 < 1) || decide (t.length + 1 < 1)) = false by simp]
  unfold inoR
  rw [hp]
  by_cases h : (rEs b.toNat t false).2.2 = false ∧ (rEs b.toNat t false).2.1 = [] ∧ IN.ok ⟨2, 0, (rEs b.toNat t false).1⟩
  · rw [if_pos h, if_pos]
    refine ⟨?_, h.1, h.2.1, h.2.2⟩
    have hd : IN.dir ⟨2, 0, (rEs b.toNat t false).1⟩ := h.2.2.elim (fun x => absurd x.1 (show ¬ (2 : Int) = 1 by decide)) id
    have h1 : ((rEs b.toNat t false).1.flatMap ebytes).length ≤ 14 * (rEs b.toNat t false).1.length := flat_bytes_le _ (good_all hd.2.2.2)
    have h2 := rEs_fwd b.toNat t h.1
    rw [h.2.1, List.append_nil] at h2
    have h3 : (rEs b.toNat t false).1.length ≤ 8 := hd.2.2.1
    rw [← h2] at h1
    simp only [List.length_cons]
    omega
  · rw [if_neg h, if_neg]
    exact fun h2 => h ⟨h2.2.1, h2.2.2.1, h2.2.2.2⟩
theorem not_ok {k z : Int} {es : List EN} (h1 : k ≠ 1) (h2 : k ≠ 2) : ¬ IN.ok ⟨k, z, es⟩ := fun h => h.elim (fun x => h1 x.1) (fun x => h2 x.1)
theorem inoR_nil : inoR [] = none := by
  unfold inoR
  rw [if_neg]
  rintro ⟨_, h, _⟩
  simp [rPre, r1, le] at h
theorem inoR_one (a : UInt8) : inoR [a] = none := by
  unfold inoR
  rw [if_neg]
  rintro ⟨_, h, _, h3⟩
  unfold rPre at h h3
  rw [r1_cons] at h h3
  split at h
  · simp at h
  · split at h
    · rw [show ([a] : List UInt8).drop 1 = [] from rfl, show r1 [] = 0 from rfl] at h
      simp [rEs] at h
    · rename_i h1 h2
      rw [if_neg h1, if_neg h2] at h3
      exact not_ok (by omega) (by omega) h3
theorem inoR_kind (a b : UInt8) (t : List UInt8) (ha : a.toNat ≠ 2) (h1 : ¬ (a.toNat = 1 ∧ t.length = 1)) : inoR (a :: b :: t) = none := by
  unfold inoR
  rw [if_neg]
  rintro ⟨_, h, h4, h3⟩
  unfold rPre at h h3 h4
  rw [r1_cons] at h h3 h4
  by_cases hk : a.toNat = 1
  · rw [if_pos hk] at h h4
    simp only [List.drop_succ_cons, List.drop_zero, List.length_cons, Bool.or_eq_false_iff, decide_eq_false_iff_not] at h h4
    match t, h, h4, h1 with
    | [], h, _, _ => simp at h
    | [c], _, _, h1 => exact h1 ⟨hk, rfl⟩
    | c :: d :: r, _, h4, _ => simp at h4
  · rw [if_neg hk, if_neg ha] at h3
    exact not_ok (by omega) (by omega) h3
theorem inoR_file (a x y : UInt8) (ha : a.toNat = 1) : inoR [a, x, y] = if IN.ok ⟨1, (x.toNat : Int) + 256 * (y.toNat : Int), []⟩ then some ⟨1, (x.toNat : Int) + 256 * (y.toNat : Int), []⟩ else none := by
  have hr : rn2 [x, y] = x.toNat + 256 * y.toNat := by simp [rn2, le]
  have hp : rPre [a, x, y] = (⟨1, (x.toNat : Int) + 256 * (y.toNat : Int), []⟩, [], false) := by
    unfold rPre
    rw [if_pos (by rw [r1_cons]; exact ha)]
    simp only [List.drop_succ_cons, List.drop_zero, hr]
    simp
  unfold inoR
  rw [hp]
  by_cases h : IN.ok ⟨1, (x.toNat : Int) + 256 * (y.toNat : Int), []⟩
  · rw [if_pos h, if_pos ⟨by simp, rfl, rfl, h⟩]
  · rw [if_neg h, if_neg fun h2 => h h2.2.2.2]
/-- what was read is written as the same bytes -/
theorem inoR_fwd {l : List UInt8} {n : IN} (h : inoR l = some n) : n.bytes = l ∧ n.ok := by
  match l with
  | [] => rw [inoR_nil] at h; cases h
  | [a] => rw [inoR_one] at h; cases h
  | a :: b :: t =>
    by_cases ha : a.toNat = 2
    · rw [inoR_dir a b t ha] at h
      split at h
      · rename_i hc
        cases h
        refine ⟨?_, hc.2.2⟩
        have h2 := rEs_fwd b.toNat t hc.1
        rw [hc.2.1, List.append_nil] at h2
        unfold IN.bytes
        rw [if_neg (by simp)]
        simp only [rEs_len]
        rw [← h2]
        show UInt8.ofNat 2 :: UInt8.ofNat b.toNat :: t = _
        rw [ofNat_toNat, ← ha, ofNat_toNat]
      · cases h
    · by_cases h1 : a.toNat = 1 ∧ t.length = 1
      · obtain ⟨h1, h2⟩ := h1
        obtain ⟨y, rfl⟩ := List.length_eq_one_iff.1 h2
        rw [inoR_file a b y h1] at h
        split at h
        · rename_i hc
          cases h
          refine ⟨?_, hc⟩
          unfold IN.bytes
          rw [if_pos rfl]
          have e : ((b.toNat : Int) + 256 * (y.toNat : Int)).toNat = b.toNat + 256 * y.toNat := by omega
          simp only [e]
          show UInt8.ofNat 1 :: UInt8.ofNat (b.toNat + 256 * y.toNat) :: UInt8.ofNat ((b.toNat + 256 * y.toNat) / 256) :: [] = _
          have hb := b.toNat_lt
          have e1 : (b.toNat + 256 * y.toNat) / 256 = y.toNat := by omega
          have e2 : UInt8.ofNat (b.toNat + 256 * y.toNat) = b := by
            apply UInt8.toNat_inj.1
            rw [UInt8.toNat_ofNat']
            omega
          rw [e1, e2, ofNat_toNat, ← h1, ofNat_toNat]
        · cases h
      · rw [inoR_kind a b t ha h1] at h
        cases h
end Go.Proofs.Ytppodbijdhcclaa

