/- Changes in memory of a call's own; the laws' great and copied. No condition. -/
import Derived.Test.YtppodbijdhcclaaQChsOpen
import Derived.Test.YtppodbijdhcclaaQRowsApp
import Derived.Test.YtppodbijdhcclaaQCacheSt
import Derived.Test.YtppodbijdhcclaaQCore
namespace Go.Proofs.Ytppodbijdhcclaa
open Go Go.RowKit
theorem rowC : RowTy Try.prog 22 46 3 40 := RowTy.mk' (z := .agg #[.int .i64 0, .bool false, .slice none 0 0]) Try.underlying22 (by kernel_rfl) rfl
theorem crow_one (x : CV) : ∀ u ∈ crow x, u.oneCell' = true := by
  intro u hu
  simp only [crow, List.mem_cons, List.not_mem_nil, or_false] at hu
  rcases hu with rfl | rfl | rfl <;> rfl
theorem crows_length (cs : List CV) : (cs.flatMap crow).length = cs.length * 3 := by
  induction cs with
  | nil => rfl
  | cons x xs ih => rw [List.flatMap_cons, List.length_append, crow_len, ih, List.length_cons]; omega
/-- changes in a row, and bodies, of a call's own: all of it above base -/
structure ChOwn (w : World) (base : Nat) (v : Value) (cs : List CV) (ls : List (List UInt8)) : Prop where
  row : w.ownsRow base 46 3 v cs.length (cs.flatMap crow)
  len : cs.length = ls.length
  bods : ∀ (i : Nat) (x : CV), cs[i]? = some x → BytesS w (fun b => base ≤ b ∧ b < w.heap.size ∧ v.ownBlock ≠ some b) (.slice x.A x.n x.c) (ls.getD i [])
section
variable {w w' : World} {base : Nat} {v : Value} {cs : List CV} {ls : List (List UInt8)}
theorem ChOwn.nil (w : World) (base : Nat) : ChOwn w base (.slice none 0 0) [] [] := ⟨World.ownsRow_nil w base _ 3, rfl, fun i x h => by simp at h⟩
theorem ChOwn.made (w : World) (base : Nat) (hb : base ≤ w.heap.size) (g : Nat) (hg : g = w.heap.size) : ChOwn (w.alloc (.cells #[] 46)) base (.slice (some ⟨g, 0, none⟩) 0 0) [] [] := by
  subst hg
  exact ⟨World.ownsRow_made (size := 3) w #[] 0 hb (by simp [maxLen]) rfl, rfl, fun i x h => by simp at h⟩
theorem ChOwn.below (h : ChOwn w base v cs ls) (hb : Below w.heap.size w w') : ChOwn w' base v cs ls :=
  ⟨World.ownsRow.kept h.row (only_of_below hb none) (by cases v.ownBlock <;> simp), h.len, fun i x hx => ((h.bods i x hx).grown (only_of_below hb none) (by simp)).more (fun b hh => ⟨hh.1, Nat.lt_of_lt_of_le hh.2.1 hb.size, hh.2.2⟩)⟩
theorem ChOwn.other {g : Nat} (h : ChOwn w base v cs ls) (hb : w.grownBy w' (some g)) (hg : g < base) : ChOwn w' base v cs ls :=
  ⟨World.ownsRow.kept h.row hb (.inr fun e => by have := (World.ownsRow.lt h.row g e).1; omega), h.len, fun i x hx => ((h.bods i x hx).grown hb (fun b hh e => by cases e; omega)).more (fun b hh => ⟨hh.1, Nat.lt_of_lt_of_le hh.2.1 hb.size, hh.2.2⟩)⟩
theorem ChOwn.append {x : CV} {l : List UInt8} {A : Option Addr} {c : Nat} {k : Nat} (h : ChOwn w base v cs ls) (hx : BytesS w (fun b => base ≤ b ∧ b < w.heap.size ∧ v.ownBlock ≠ some b) (.slice x.A x.n x.c) l)
    (hr : w'.ownsRow base 46 3 (.slice A k c) k (cs.flatMap crow ++ crow x)) (hk : cs.length + 1 = k) (hg : w.grownBy w' v.ownBlock) (ho : (Value.slice A k c).ownBlock = v.ownBlock ∨ (Value.slice A k c).ownBlock = some w.heap.size) : ChOwn w' base (.slice A k c) (cs ++ [x]) (ls ++ [l]) := by
  have hblk : ∀ b, base ≤ b ∧ b < w.heap.size ∧ v.ownBlock ≠ some b → base ≤ b ∧ b < w'.heap.size ∧ (Value.slice A k c).ownBlock ≠ some b := fun b hb => ⟨hb.1, Nat.lt_of_lt_of_le hb.2.1 hg.size, fun e => by
    rcases ho with ho | ho
    · rw [ho] at e; exact hb.2.2 e
    · rw [ho] at e; cases e; omega⟩
  subst hk
  have hlen := h.len
  refine ⟨?_, by rw [List.length_append, List.length_append, h.len]; rfl, fun i y hy => ?_⟩
  · rw [List.length_append, List.flatMap_append, List.flatMap_cons, List.flatMap_nil, List.append_nil]
    exact hr
  · rcases Nat.lt_or_ge i cs.length with hi | hi
    · rw [List.getElem?_append_left hi] at hy
      have h1 := ((h.bods i y hy).grown hg (fun b hb e => hb.2.2 e.symm)).more hblk
      rw [List.getD_eq_getElem?_getD, List.getElem?_append_left (by rw [← h.len]; exact hi), ← List.getD_eq_getElem?_getD]
      exact h1
    · have hi2 := get_lt hy
      rw [List.length_append] at hi2
      obtain rfl : i = cs.length := by simp at hi2; omega
      rw [List.getElem?_append_right (Nat.le_refl _), Nat.sub_self] at hy
      cases hy
      rw [List.getD_eq_getElem?_getD, List.getElem?_append_right (by rw [← h.len]; exact Nat.le_refl _), ← h.len, Nat.sub_self]
      exact (hx.grown hg (fun b hb e => hb.2.2 e.symm)).more hblk
theorem ChOwn.lower {base' : Nat} (h : ChOwn w base v cs ls) (hb : base' ≤ base) : ChOwn w base' v cs ls := by
  refine ⟨⟨h.row.1, ?_⟩, h.len, fun i x hx => (h.bods i x hx).more (fun b hh => ⟨Nat.le_trans hb hh.1, hh.2⟩)⟩
  rcases h.row.2 with h0 | ⟨g, cap, cur, hv, hg, rest⟩
  · exact .inl h0
  · exact .inr ⟨g, cap, cur, hv, Nat.le_trans hb hg, rest⟩
theorem ChOwn.rows (h : ChOwn w base v cs ls) : Chs w w.heap.size v cs := by
  obtain ⟨A, c, rfl⟩ := ownsRow_some h.row
  have hs : cs.length ≤ c ∧ c ≤ maxLen := by
    rcases h.row.2 with ⟨hv, h0⟩ | ⟨g, cap, cur, hv, _, _, hn, hm, _⟩
    · obtain ⟨_, _, rfl⟩ := Value.slice.inj hv; exact ⟨by omega, by simp [maxLen]⟩
    · obtain ⟨_, _, rfl⟩ := Value.slice.inj hv; exact ⟨hn, hm⟩
  refine ⟨A, c, rfl, hs.1, hs.2, fun j u hu => ?_⟩
  have hc : ∀ {g : Nat}, (Value.slice A cs.length c).ownBlock = some g → ∀ j u, (cs.flatMap crow)[j]? = some u → w.cell? ((⟨g, 0, none⟩ : Addr).add j) = some u := fun hg => World.ownsRow.cells h.row hg
  have hlt := h.row.lt
  rcases h.row.2 with ⟨hv, h0⟩ | ⟨g, cap, cur, hv, _, _, _, _⟩
  · have hx := h.row.1
    have : cs.flatMap crow = [] := List.eq_nil_of_length_eq_zero (by rw [hx, h0])
    rw [this] at hu
    simp at hu
  · obtain ⟨rfl, _, _⟩ := Value.slice.inj hv
    exact ⟨_, rfl, (hlt g rfl).2, hc rfl j u hu⟩
theorem ChOwn.chL (h : ChOwn w base v cs ls) (hk : ∀ c ∈ cs, (Lit.int .i64 c.k).wf = true) : ChL w w.heap.size v cs ls :=
  ⟨h.rows, ⟨h.len, fun i x hx => (h.bods i x hx).bytes (fun _ hb => hb.2.1)⟩, hk⟩
end
/-- the bodies may be written: one body .. -/
def CFree1 (w : World) (base : Nat) (v : Value) (A : Option Addr) : Prop := ∀ a, A = some a → (base ≤ a.block ∧ a.block < w.heap.size ∧ v.ownBlock ≠ some a.block) ∧ ∀ j, w.frozen? (a.add j) = false
def CDis (x y : CV) : Prop := ∀ a b, x.A = some a → y.A = some b → a.block ≠ b.block
/-- .. and all of them, each in a block of its own -/
structure ChFree (w : World) (base : Nat) (v : Value) (cs : List CV) : Prop where
  one : ∀ x ∈ cs, CFree1 w base v x.A
  dis : cs.Pairwise CDis
section
variable {w w' : World} {base : Nat} {v : Value} {cs : List CV}
theorem ChFree.nil : ChFree w base v [] := ⟨fun x h => by simp at h, List.Pairwise.nil⟩
theorem CFree1.grown {A : Option Addr} {row : Option Nat} (h : CFree1 w base v A) (hg : w.grownBy w' row) (hr : ∀ b, base ≤ b → b < w.heap.size → v.ownBlock ≠ some b → some b ≠ row) : CFree1 w' base v A := fun a ha => by
  obtain ⟨⟨h1, h2, h3⟩, h4⟩ := h a ha
  exact ⟨⟨h1, Nat.lt_of_lt_of_le h2 hg.size, h3⟩, fun j => (World.frozen?_of_block (by rw [add_block]; exact hg.block a.block h2 (hr _ h1 h2 h3))).trans (h4 j)⟩
theorem ChFree.below (h : ChFree w base v cs) (hb : Below w.heap.size w w') : ChFree w' base v cs := ⟨fun x hx => (h.one x hx).grown (only_of_below hb none) (by simp), h.dis⟩
theorem ChFree.other {g : Nat} (h : ChFree w base v cs) (hb : w.grownBy w' (some g)) (hg : g < base) : ChFree w' base v cs := ⟨fun x hx => (h.one x hx).grown hb (fun b h1 _ _ e => by cases e; omega), h.dis⟩
theorem ChFree.lower {base' : Nat} (h : ChFree w base v cs) (hb : base' ≤ base) : ChFree w base' v cs := ⟨fun x hx a ha => ⟨⟨Nat.le_trans hb (h.one x hx a ha).1.1, (h.one x hx a ha).1.2⟩, (h.one x hx a ha).2⟩, h.dis⟩
theorem ChFree.append {x : CV} {A : Option Addr} {c k : Nat} (h : ChFree w base v cs) (hx : CFree1 w base v x.A) (hd : ∀ y ∈ cs, CDis y x) (hg : w.grownBy w' v.ownBlock) (ho : (Value.slice A k c).ownBlock = v.ownBlock ∨ (Value.slice A k c).ownBlock = some w.heap.size) : ChFree w' base (.slice A k c) (cs ++ [x]) := by
  refine ⟨fun y hy => ?_, List.pairwise_append.2 ⟨h.dis, List.pairwise_singleton _ _, fun a ha b hb => by
    simp only [List.mem_singleton] at hb
    rw [hb]
    exact hd a ha⟩⟩
  have h1 : CFree1 w base v y.A := by
    rcases List.mem_append.1 hy with hy | hy
    · exact h.one y hy
    · simp only [List.mem_singleton] at hy
      rw [hy]
      exact hx
  have h2 := h1.grown hg (fun b _ _ h3 e => h3 e.symm)
  exact fun a ha => ⟨⟨(h2 a ha).1.1, (h2 a ha).1.2.1, fun e => by
    rcases ho with ho | ho
    · rw [ho] at e; exact (h2 a ha).1.2.2 e
    · rw [ho] at e
      have := (h1 a ha).1.2.1
      have := Option.some.inj e
      omega⟩, (h2 a ha).2⟩
/-- a body of one's own lies above the older ones -/
theorem Own.dis {A : Option Addr} {n c lo : Nat} {l : List UInt8} {w0 : World} (h : Own 5 w lo (.slice A n c) l) (hf : ChFree w0 base v cs) (hl : w0.heap.size ≤ lo) (k : Int) (g : Bool) (n' c' : Nat) : ∀ y ∈ cs, CDis y ⟨k, g, A, n', c'⟩ := fun y hy a b ha hb => by
  have h1 := (hf.one y hy a ha).1.2.1
  simp only at hb
  subst hb
  have h2 := (h.addr' (x := b.block) rfl).2.1
  omega
theorem Own.free1 {A : Option Addr} {n c lo : Nat} {l : List UInt8} (h : Own 5 w lo (.slice A n c) l) (hb : base ≤ lo) (hv : ∀ b, v.ownBlock = some b → b < lo) : CFree1 w base v A := fun a ha => by
  subst ha
  obtain ⟨e1, h1, h2⟩ := h.addr' (x := a.block) rfl
  have e2 : a = ⟨a.block, 0, none⟩ := Option.some.inj e1
  refine ⟨⟨by omega, h2, fun e => by have := hv _ e; omega⟩, fun j => ?_⟩
  rw [e2, show (⟨a.block, 0, none⟩ : Addr).add j = ⟨a.block, j, none⟩ by simp [Addr.add_lit]]
  rw [e2] at h
  exact h.free j
end
def Great19 (w0 : World) (cs : List CV) (e : Ending) (w' : World) : Prop := ∃ g : Bool, e = .returned (.bool g) ∧ (g = false → cs.length ≤ 40 ∧ ∀ c ∈ cs, c.n ≤ 300) ∧ Below w0.heap.size w0 w'
theorem Great19.yes {w0 w' : World} {cs : List CV} (h : Below w0.heap.size w0 w') : Great19 w0 cs (.returned (.bool true)) w' := ⟨true, rfl, (fun q => by cases q), h⟩
theorem Great19.no {w0 w' : World} {cs : List CV} (h : Below w0.heap.size w0 w') (h1 : cs.length ≤ 40) (h2 : ∀ c ∈ cs, c.n ≤ 300) : Great19 w0 cs (.returned (.bool false)) w' := ⟨false, rfl, (fun _ => ⟨h1, h2⟩), h⟩
set_option maxRecDepth 100000 in
set_option maxHeartbeats 8000000 in
theorem great19_any (v : Value) (cs : List CV) (w : World) (h : Chs w w.heap.size v cs) :
    Calls Try.prog 13 #[v] w fun e w' => Great19 w cs e w' := by
  obtain ⟨A, c, rfl, hc, hm, _⟩ := id h
  have HS := Lib.hid h
  obtain ⟨N, hN⟩ : ∃ N, cs.length = N := ⟨_, rfl⟩
  have HN := Lib.hid hN
  rw [hN] at hc HS ⊢
  clear h hN
  have B0 := Lib.hid (Below.refl w.heap.size w)
  go_enter Try.func13, Try.ntmps13
  by_cases h40 : N ≤ 40
  · have d1 : decide ((40 : Int) < (N : Int)) = false := by simp; omega
    have H40 := Lib.hid h40
    go_wp2_with fail
    clear d1
    go_loopw [10] (fun i wr => ∃ k : Nat, k ≤ N ∧ i = .int .i64 k ∧ Hid (Below w.heap.size w wr) ∧ Hid (∀ (j : Nat) (x : CV), j < k → cs[j]? = some x → x.n ≤ 300)) (fun i _ => N - (intOf i).toNat)
    case atStart => exact ⟨0, Nat.zero_le _, rfl, B0, Lib.hid (fun j x h => by omega)⟩
    case round =>
      clear B0
      rename_i wr
      obtain ⟨k, hk, rfl, hb, hP⟩ := hrel
      by_cases hlt : k < N
      · obtain ⟨x, hx⟩ : ∃ x, cs[k]? = some x := ⟨_, List.getElem?_eq_getElem (by rw [HN.out]; exact hlt)⟩
        obtain ⟨a, rfl, hab, hck⟩ := (HS.out.below hb.out).elem hx
        have HX := Lib.hid hx
        obtain ⟨xk, xg, xA, xn, xc⟩ := x
        have HCK := Lib.hid (show ∀ j u, ([.int .i64 xk, .bool xg, .slice xA xn xc] : List Value)[j]? = some u → wr.cell? ((a.add (k * 3)).add j) = some u from hck)
        have x2 : (wr.alloc (.cells #[.int .i64 xk, .bool xg, .slice xA xn xc] 46)).cell? ⟨wr.heap.size, 2, none⟩ = some (.slice xA xn xc) := (Blk.new3c wr _ _ _ _).cell 2
        have H3 := Lib.hid (hb.out.alloc hb.out.size (.cells #[.int .i64 xk, .bool xg, .slice xA xn xc] 46))
        clear hck hx
        by_cases h3 : xn ≤ 300
        · have d2 : decide ((300 : Int) < (xn : Int)) = false := by simp; omega
          have HP3 : Hid (∀ (j : Nat) (x : CV), j < k + 1 → cs[j]? = some x → x.n ≤ 300) := Lib.hid (fun j x hj hx => by
            rcases Nat.lt_or_ge j k with h | h
            · exact hP.out j x h hx
            · obtain rfl : j = k := by omega
              rw [HX.out] at hx
              cases hx
              exact h3)
          go_wp2_with (with_reducible refine wpl_cells (q := a.add (k * 3)) (row := [.int .i64 xk, .bool xg, .slice xA xn xc]) aggC sizeC (.tmp 12) rfl rfl rfl rfl HCK.out ?_)
          exact ⟨⟨k + 1, by omega, by go_num, H3, HP3⟩, by simp [intOf]; omega⟩
        · have d2 : decide ((300 : Int) < (xn : Int)) = true := by simp; omega
          go_wp2_with (with_reducible refine wpl_cells (q := a.add (k * 3)) (row := [.int .i64 xk, .bool xg, .slice xA xn xc]) aggC sizeC (.tmp 12) rfl rfl rfl rfl HCK.out ?_)
          go_ret
          exact Great19.yes H3.out
      · obtain rfl : k = N := by omega
        go_wp2_with fail
        go_ret
        exact Great19.no hb.out (by rw [HN.out]; exact H40.out) (fun x hx => by
          obtain ⟨i, hi⟩ := List.mem_iff_getElem?.1 hx
          exact hP.out i x (by rw [← HN.out]; exact get_lt hi) hi)
  · have d1 : decide ((40 : Int) < (N : Int)) = true := by simp; omega
    go_wp2_with fail
    go_ret
    exact Great19.yes B0.out
def kg (x : CV) : Int × Bool := (x.k, x.g)
theorem row_one (w : World) (x : CV) (B : Nat) (hB : w.heap.size < B) : Row (w.alloc (.cells #[.int .i64 x.k, .bool x.g, .slice x.A x.n x.c] 46)) B (some ⟨w.heap.size, 0, none⟩) (crow x) := fun j u hu => by
  refine ⟨⟨w.heap.size, 0, none⟩, rfl, hB, ?_⟩
  rw [show (⟨w.heap.size, 0, none⟩ : Addr).add j = ⟨w.heap.size, j, none⟩ by simp [Addr.add_lit], (Blk.new3c w _ _ _ _).cell]
  exact hu
set_option maxRecDepth 100000 in
set_option maxHeartbeats 16000000 in
/-- copied: the same changes, of their own memory, that may be written -/
theorem copied_free (v : Value) (cs : List CV) (ls : List (List UInt8)) (w : World) (h : ChL w w.heap.size v cs ls) (hz : cs.length ≤ 1000) (hn : ∀ c ∈ cs, c.n ≤ 100000) :
    Calls Try.prog 18 #[v] w fun e w' => ∃ v' cs', e = .returned v' ∧ ChOwn w' w.heap.size v' cs' ls ∧ ChFree w' w.heap.size v' cs' ∧ cs'.map kg = cs.map kg ∧ Below w.heap.size w w' := by
  obtain ⟨A, c, rfl, hc, hm⟩ := chL_wid h
  have HS := Lib.hid h
  obtain ⟨N, hN⟩ : ∃ N, cs.length = N := ⟨_, rfl⟩
  have HN := Lib.hid hN
  have HNN := Lib.hid hn
  rw [hN] at hc hz HS ⊢
  clear h hN hn
  have B0 := Lib.hid ((Below.refl w.heap.size w).alloc (Nat.le_refl _) (.cells #[] 46))
  have C0 := Lib.hid (ChOwn.made w w.heap.size (Nat.le_refl _) w.heap.size rfl)
  go_enter Try.func18, Try.ntmps18
  go_wp2_with fail
  go_loopw [3, 9] (fun o i wr => ∃ (k : Nat) (A' : Option Addr) (c' : Nat) (cs' : List CV), k ≤ N ∧ o = .slice A' k c' ∧ i = .int .i64 k ∧ Hid (ChOwn wr w.heap.size (.slice A' k c') cs' (ls.take k)) ∧ Hid (ChFree wr w.heap.size (.slice A' k c') cs') ∧ Hid (cs'.map kg = (cs.take k).map kg) ∧ Hid (Below w.heap.size w wr)) (fun _ i _ => N - (intOf i).toNat)
  case atStart => exact ⟨0, _, _, [], Nat.zero_le _, rfl, rfl, Lib.hid (by rw [List.take_zero]; exact C0.out), Lib.hid ChFree.nil, Lib.hid (by rw [List.take_zero]), B0⟩
  case round =>
    clear B0 C0
    rename_i wr
    obtain ⟨k, A', c', cs', hk, rfl, rfl, hO, hF, hM, hb⟩ := hrel
    by_cases hlt : k < N
    · obtain ⟨x, hx⟩ : ∃ x, cs[k]? = some x := ⟨_, List.getElem?_eq_getElem (by rw [HN.out]; exact hlt)⟩
      obtain ⟨a, rfl, hab, hck⟩ := (HS.out.below hb.out).rows.elem hx
      have hby := (((HS.out.below hb.out).bods.2 k x hx)).more hb.out.size
      have hxn := HNN.out x (List.mem_of_getElem? hx)
      have HX := Lib.hid hx
      obtain ⟨xk, xg, xA, xn, xc⟩ := x
      obtain ⟨l, hl⟩ : ∃ l, l = ls.getD k [] := ⟨_, rfl⟩
      rw [← hl] at hby
      have HLT : Hid (ls.take (k + 1) = ls.take k ++ [l]) := Lib.hid (take_snoc ls (by
        have hlen := HS.out.bods.1
        rw [hl, List.getD_eq_getElem?_getD, List.getElem?_eq_getElem (by rw [← hlen, HN.out]; exact hlt)]
        rfl))
      have HLL : Hid (l.length = xn) := Lib.hid (by obtain ⟨_, _, e, _⟩ := hby; simp only [Value.slice.injEq] at e; exact e.2.1.symm)
      have HCK := Lib.hid (show ∀ j u, ([.int .i64 xk, .bool xg, .slice xA xn xc] : List Value)[j]? = some u → wr.cell? ((a.add (k * 3)).add j) = some u from hck)
      have HMT : Hid ((cs.take (k + 1)).map kg = (cs.take k).map kg ++ [(xk, xg)]) := Lib.hid (by rw [take_snoc cs HX.out, List.map_append]; rfl)
      have B3 := Lib.hid ((Below.refl wr.heap.size wr).alloc (Nat.le_refl _) (.cells #[.int .i64 xk, .bool xg, .slice xA xn xc] 46))
      have X3 := Lib.hid (Blk.new3c wr (.int .i64 xk) (.bool xg) (.slice xA xn xc) 46)
      have BY3 := Lib.hid (hby.below B3.out)
      clear hck hx hby hl
      go_upto_region 5 with (with_reducible refine wpl_cells (q := a.add (k * 3)) (row := [.int .i64 xk, .bool xg, .slice xA xn xc]) aggC sizeC (.tmp 11) rfl rfl rfl rfl HCK.out ?_)
      have HBS := Lib.hid hb.out.size
      obtain ⟨W3, hW3⟩ : ∃ W3, W3 = wr.alloc (.cells #[.int .i64 xk, .bool xg, .slice xA xn xc] 46) := ⟨_, rfl⟩
      have S3 : Hid (W3.heap.size = wr.heap.size + 1) := Lib.hid (by rw [hW3, World.size_alloc])
      rw [← hW3] at X3 BY3 B3 ⊢
      obtain ⟨p, hp⟩ : ∃ p, p = wr.heap.size := ⟨_, rfl⟩
      have HP : Hid (w.heap.size ≤ p ∧ p < W3.heap.size) := Lib.hid ⟨by rw [hp]; exact hb.out.size, by rw [hp, S3.out]; omega⟩
      rw [← hp] at X3 BY3 B3 ⊢
      have HPE := Lib.hid hp
      clear hW3 hp HCK S3
      have O3 := Lib.hid (Own.made (e := 5) (w := W3) (base := W3.heap.size) #[] 0 (Nat.le_refl _) (by simp [maxLen]) rfl W3.heap.size rfl)
      have B4 := Lib.hid ((Below.refl W3.heap.size W3).alloc (Nat.le_refl _) (.cells #[] 5))
      have BY4 := Lib.hid ((BY3.out.more (Nat.le_of_lt HP.out.2)).below B4.out)
      have HLM : Hid (l.length ≤ 100000) := Lib.hid (by rw [HLL.out]; exact hxn)
      have x4 : (W3.alloc (.cells #[] 5)).cell? ⟨p, 2, none⟩ = some (.slice xA xn xc) := (X3.out.alloc _).cell 2
      go_upto_region 6 with (at_builtin; go_loud (refine wpl_append_bytes byteTys rfl (.tmp 13) (.tmp 15) rfl rfl O3.out W3.heap.size (.slice xA xn xc) l rfl BY4.out (by simp only [List.length_nil]; have := HLM.out; omega) (by simp) xn (by simp [HLL.out]) ?_); intro A7 c7 w7 O7 g7 h7; have HO7 := Lib.hid O7; have G7 := Lib.hid (B4.out.trans g7); have X7 := Lib.hid (X3.out.after G7.out); have x7 : w7.cell? ⟨p, 2, none⟩ = some (.slice xA xn xc) := X7.out.cell 2; have f7 := X7.out.free 2; clear O7 g7 h7)
      have X8 := Lib.hid (X7.out.set 2 (.slice A7 xn c7))
      have s8 := only_set w7 ⟨p, 2, none⟩ (.slice A7 xn c7)
      have P8 := Lib.hid (show Below p wr (w7.setCell ⟨p, 2, none⟩ (.slice A7 xn c7)) from (B3.out.trans (G7.out.mono (Nat.le_of_lt HP.out.2))).grown s8 (Nat.le_trans (Nat.le_of_lt HP.out.2) G7.out.size) (fun q e => by cases e; exact Nat.le_refl _))
      have HO8 := Lib.hid (HO7.out.kept s8 (.inr (fun e => by have h1 : W3.heap.size ≤ p := (World.ownsRow.lt HO7.out _ e).1; have := HP.out; omega)))
      obtain ⟨W8, hW8⟩ : ∃ W8, W8 = w7.setCell ⟨p, 2, none⟩ (.slice A7 xn c7) := ⟨_, rfl⟩
      rw [← hW8] at X8 P8 HO8 ⊢
      clear s8 x7 f7 x4 hW8
      have C8 := Lib.hid (hO.out.below (w' := W8) (by rw [← HPE.out]; exact P8.out))
      have F8 := Lib.hid (hF.out.below (w' := W8) (by rw [← HPE.out]; exact P8.out))
      have HDS : Hid (∀ y ∈ cs', CDis y ⟨xk, xg, A7, xn, c7⟩) := Lib.hid (HO8.out.dis hF.out (by have := HP.out; have := HPE.out; omega) _ _ _ _)
      have X8F : Hid (CFree1 W8 w.heap.size (.slice A' k c') A7) := Lib.hid (HO8.out.free1 (by have := HP.out; omega) (fun b e => by have h2 : b < wr.heap.size := (World.ownsRow.lt hO.out.row b e).2; have := HP.out; have := HPE.out; omega))
      have N8 : Hid (BytesS W8 (fun b => w.heap.size ≤ b ∧ b < W8.heap.size ∧ (Value.slice A' k c').ownBlock ≠ some b) (.slice A7 xn c7) l) := Lib.hid ((bytesS_cut (Own.toS (S := fun b => W3.heap.size ≤ b) HO8.out (fun b h => h) HLM.out)).more (fun b h => ⟨by have h1 : W3.heap.size ≤ b := h.1; have := HP.out; omega, h.2, fun e => by have h1 : W3.heap.size ≤ b := h.1; have h2 : b < wr.heap.size := (World.ownsRow.lt hO.out.row b e).2; have := HP.out; have := HPE.out; omega⟩))
      have T8 := Lib.hid (hb.out.trans (P8.out.mono (by rw [HPE.out]; exact HBS.out)))
      have hcl : Hid (cs'.length = k) := Lib.hid (by rw [← List.length_map (f := kg), hM.out, List.length_map, List.length_take, HN.out]; omega)
      have R8 := Lib.hid (row_one W8 ⟨xk, xg, A7, xn, c7⟩ (W8.heap.size + 1) (Nat.lt_succ_self _))
      have B9 := Lib.hid ((Below.refl W8.heap.size W8).alloc (Nat.le_refl _) (.cells #[.int .i64 xk, .bool xg, .slice A7 xn c7] 46))
      have C9 := Lib.hid (C8.out.below B9.out)
      have F9 := Lib.hid (F8.out.below B9.out)
      have X9F := Lib.hid (X8F.out.grown (only_of_below B9.out none) (by simp))
      have N9 : Hid (BytesS (W8.alloc (.cells #[.int .i64 xk, .bool xg, .slice A7 xn c7] 46)) (fun b => w.heap.size ≤ b ∧ b < (W8.alloc (.cells #[.int .i64 xk, .bool xg, .slice A7 xn c7] 46)).heap.size ∧ (Value.slice A' k c').ownBlock ≠ some b) (.slice A7 xn c7) l) := Lib.hid ((N8.out.grown (only_of_below B9.out none) (by simp)).more (fun b h => ⟨h.1, Nat.lt_of_lt_of_le h.2.1 B9.out.size, h.2.2⟩))
      have T9 := Lib.hid (T8.out.trans (B9.out.mono T8.out.size))
      have HW9 := Lib.hid (C9.out.row)
      rw [hcl.out] at HW9
      clear hO hF hb C8 N8 T8 F8 X8F HO7 HO8 P8 BY3 BY4 O3 B4 G7 X7 X3 B3
      go_wp2_with (first
        | (with_reducible refine wpl_seg_load aggC sizeC (.tmp 5) rfl rfl X8.out 0 [.int .i64 xk, .bool xg, .slice A7 xn c7] rfl rfl rfl ?_)
        | (at_builtin; go_loud (refine wpl_app_row rowC (by decide) rfl (.tmp 18) (.tmp 20) rfl rfl HW9.out ⟨W8.heap.size, 0, none⟩ 1 1 (crow ⟨xk, xg, A7, xn, c7⟩) rfl (by decide) rfl (W8.heap.size + 1) R8.out (crow_one _) (by omega) (by decide) T9.out.size (k + 1) rfl ?_); intro A10 c10 w10 r10 g10 o10; have C10 := Lib.hid (C9.out.append N9.out r10 (by rw [hcl.out]) g10 o10); have F10 := Lib.hid (ChFree.append (x := ⟨xk, xg, A7, xn, c7⟩) F9.out X9F.out HDS.out g10 o10); have T10 := Lib.hid (T9.out.grown g10 T9.out.size (fun b e => (World.ownsRow.lt C9.out.row b e).1)); clear r10 g10 o10))
      exact ⟨⟨k + 1, _, _, cs' ++ [⟨xk, xg, A7, xn, c7⟩], by omega, rfl, by go_num, Lib.hid (by rw [HLT.out]; exact C10.out), F10, Lib.hid (by rw [HMT.out, List.map_append, hM.out]; rfl), T10⟩, by simp [intOf]; omega⟩
    · obtain rfl : k = N := by omega
      go_wp2_with fail
      go_ret
      exact ⟨_, cs', rfl, by have h1 := hO.out; rw [List.take_of_length_le (by rw [← HS.out.bods.1, HN.out]; exact Nat.le_refl _)] at h1; exact h1, hF.out, by have h1 := hM.out; rw [List.take_of_length_le (by rw [HN.out]; exact Nat.le_refl _)] at h1; exact h1, hb.out⟩
theorem copied_any (v : Value) (cs : List CV) (ls : List (List UInt8)) (w : World) (h : ChL w w.heap.size v cs ls) (hz : cs.length ≤ 1000) (hn : ∀ c ∈ cs, c.n ≤ 100000) :
    Calls Try.prog 18 #[v] w fun e w' => ∃ v' cs', e = .returned v' ∧ ChOwn w' w.heap.size v' cs' ls ∧ cs'.map kg = cs.map kg ∧ Below w.heap.size w w' :=
  (copied_free v cs ls w h hz hn).mono fun _ _ ⟨v', cs', h1, h2, _, h3, h4⟩ => ⟨v', cs', h1, h2, h3, h4⟩
end Go.Proofs.Ytppodbijdhcclaa

