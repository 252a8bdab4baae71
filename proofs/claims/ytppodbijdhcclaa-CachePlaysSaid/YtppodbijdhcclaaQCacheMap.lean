/- The cache's memory: its block and its map. No condition. -/
import Derived.Test.YtppodbijdhcclaaQCacheNodes
import Derived.Maps.OwnOps
import Derived.Maps.OwnSet
import Derived.Maps.RangeWalk
import Derived.Maps.Views
namespace Go.Proofs.Ytppodbijdhcclaa
open Go Go.RowKit Go.Maps
def cval (x : CV) : Value := .agg #[.int .i64 x.k, .bool x.g, .slice x.A x.n x.c]
def chR : Value → Option (DataW Value × List MemPlace)
  | .agg cs => match cs.toList with
    | [.int .i64 _, .bool _, .slice _ _ _] => some (.held (.agg cs), [])
    | _ => none
  | _ => none
theorem chR_mk (x : CV) : chR (cval x) = some (.held (cval x), []) := rfl
theorem chR_inv (v : Value) (y : DataW Value × List MemPlace) (h : chR v = some y) : ∃ x : CV, v = cval x := by
  unfold chR at h
  split at h
  · rename_i cs
    split at h
    · rename_i k g A n c e
      refine ⟨⟨k, g, A, n, c⟩, ?_⟩
      unfold cval
      congr 1
      rw [← Array.toArray_toList (xs := cs), e]
    · cases h
  · cases h
theorem cval_inj {x y : CV} (h : cval x = cval y) : x = y := by
  obtain ⟨a, b, c, d, e⟩ := x
  obtain ⟨a', b', c', d', e'⟩ := y
  unfold cval at h
  simp only [Value.agg.injEq, Array.mk.injEq, List.cons.injEq, Value.int.injEq, Value.bool.injEq, Value.slice.injEq, and_true, true_and] at h
  simp_all
theorem cKey : Keyed Try.prog 3 := int_keyed Try.underlying3
theorem keyC {z : Int} (h : (Lit.int .i64 z).wf = true) : keyOf Try.prog 3 (.int .i64 z) = some (.int .i64 z) := keyOf_int_mk Try.underlying3 h
/-- the map tells the changes f -/
def MpD (D : DataW Value) (f : Int → Option CV) : Prop := ∀ z : Int, Maps.has D (.int .i64 z) = (f z).isSome ∧ ∀ x, f z = some x → (x.k = z ∧ 0 ≤ z ∧ z < 256) ∧ ∀ y, D.atKey (.int .i64 z) y = .held (cval x)
theorem MpD.start : MpD (.map []) (fun _ => none) := fun z => ⟨rfl, fun x h => by cases h⟩
theorem MpD.put {D : DataW Value} {f : Int → Option CV} (h : MpD D f) (hm : IsMap D) (x : CV) (h0 : 0 ≤ x.k ∧ x.k < 256) : MpD (D.put (.int .i64 x.k) (.held (cval x))) (fun z => if z = x.k then some x else f z) := fun z => by
  show has _ _ = (if z = x.k then some x else f z).isSome ∧ ∀ u, (if z = x.k then some x else f z) = some u → _
  by_cases e : z = x.k
  · rw [if_pos e]
    subst e
    exact ⟨has_put_same hm (by unfold WideAt.IsKeyLit; trivial) _, fun y hy => by cases hy; exact ⟨⟨rfl, h0⟩, fun _ => atKey_put_same hm (by unfold WideAt.IsKeyLit; trivial) _ _⟩⟩
  · rw [if_neg e]
    have hne : (Lit.int .i64 z) ≠ .int .i64 x.k := fun h => e (Lit.int.inj h).2
    exact ⟨by rw [has_put_other hne]; exact (h z).1, fun y hy => ⟨((h z).2 y hy).1, fun u => by rw [atKey_put_other hne]; exact ((h z).2 y hy).2 u⟩⟩
/-- the cache's block q: its source s, its map m -/
def Cc (w : World) (q m s : Nat) : Prop := Blk w q 89 [.iface 26 (.pointer (some ⟨s, 0, none⟩)), .map (some m)]
theorem chs_one {w : World} {g : Nat} {x : CV} (h : Blk w g 46 [.int .i64 x.k, .bool x.g, .slice x.A x.n x.c]) : Chs w w.heap.size (.slice (some ⟨g, 0, none⟩) 1 1) [x] :=
  ⟨some ⟨g, 0, none⟩, 1, rfl, Nat.le_refl _, by simp [maxLen], fun j u hu => by
    refine ⟨⟨g, 0, none⟩, rfl, h.lt, ?_⟩
    rw [show (⟨g, 0, none⟩ : Addr).add j = ⟨g, j, none⟩ by simp [Addr.add_lit], h.cell]
    exact hu⟩
theorem meth_live (n : Nat) (a : Addr) (w : World) : (method (n + 1) 26 (.pointer (some a)) "Live").run Try.prog w = .ok (123, .pointer (some a)) w := by kernel_rfl
theorem meth_limit (n : Nat) (a : Addr) (w : World) : (method (n + 1) 26 (.pointer (some a)) "Limit").run Try.prog w = .ok (122, .pointer (some a)) w := by kernel_rfl
set_option maxRecDepth 100000 in
set_option maxHeartbeats 8000000 in
theorem clive_any (q m s N : Nat) (f : Int → Option CV) (D : DataW Value) (bs : List ByteArray) (th : List Bool) (mo : Int) (w : World) (hq : Cc w q m s) (hs : Src w s bs th mo) (hm : w.ownsMap Try.prog 3 chR m N D) (hf : MpD D f) :
    Calls Try.prog 23 #[.pointer (some ⟨q, 0, none⟩)] w fun e w' => ∃ M, M.length = 32 ∧ e = .returned (.agg (cl M)) ∧ (∀ z, lhas M z = match f z with | some x => !x.g | none => lhas (srcTo th 256) z) ∧ Below w.heap.size w w' := by
  have R0 := Lib.hid (LArr.new w lzeros_length)
  have z0 := zeroLive
  have B0 := Lib.hid ((Below.refl w.heap.size w).alloc (Nat.le_refl _) (.cells (cl lzeros) 53))
  have Q0 := Lib.hid (Blk.alloc hq (.cells (cl lzeros) 53))
  have S0 := Lib.hid (hs.after B0.out)
  have M0 := Lib.hid (hm.alloc (.cells (cl lzeros) 53))
  have QL : Hid (q < w.heap.size ∧ s < w.heap.size ∧ m < w.heap.size) := Lib.hid ⟨Blk.lt hq, hs.lt, hm.lt⟩
  have HF := Lib.hid hf
  have KL := Lib.hid (nlive_any s bs th mo _ S0.out)
  obtain ⟨L0, hL0⟩ : ∃ L0, L0 = srcTo th 256 := ⟨_, rfl⟩
  have HL0 : Hid (L0.length = 32) := Lib.hid (by rw [hL0]; exact srcTo_length th 256)
  rw [← hL0] at KL ⊢
  have q0 : (w.alloc (.cells (cl lzeros) 53)).cell? ⟨q, 0, none⟩ = some (.iface 26 (.pointer (some ⟨s, 0, none⟩))) := Blk.cell Q0.out 0
  have ml := meth_live
  clear hq hs hm hf hL0
  go_enter Try.func23, Try.ntmps23
  go_upto_region 2 with (first
    | ((with_reducible refine KL.out.mono ?_); rintro e w1 ⟨rfl, b1⟩; have HB1 := Lib.hid (B0.out.trans (b1.mono B0.out.size)); have R1 := Lib.hid ((R0.out.after b1).alloc (.cells (cl lzeros) 53)); have Q1 := Lib.hid ((Blk.after Q0.out b1).alloc (.cells (cl lzeros) 53)); have M1 := Lib.hid ((M0.out.kept (only_of_below b1 none) (by simp)).alloc (.cells (cl lzeros) 53)); have A1 := Lib.hid (LArr.new w1 lzeros_length); have G1 : Hid (w.heap.size < w1.heap.size ∧ q < w1.heap.size ∧ m < w1.heap.size) := Lib.hid (by have h1 := R0.out.lt; have h2 := b1.size; have := QL.out; omega); clear KL b1 R0 B0 Q0 S0 M0 ml q0)
    | (with_reducible refine wpl_lstore (.tmp 3) (.tmp 10) rfl rfl A1.out rfl HL0.out rfl ?_; intro w3 A3' g3 e3; have A3 := Lib.hid A3'; have R3 := Lib.hid (R1.out.grown g3 (by have := G1.out; omega)); have Q3 := Lib.hid (Q1.out.grown g3 (by simp only [ne_eq, Option.some.injEq]; have := G1.out; omega)); have M3 := Lib.hid (M1.out.kept g3 (by simp only [ne_eq, Option.some.injEq]; have := G1.out; omega)); have H3 := Lib.hid ((HB1.out.alloc HB1.out.size (.cells (cl lzeros) 53)).grown g3 (Nat.le_trans HB1.out.size (by simp)) (fun k e => by cases e; exact HB1.out.size)); have S3 : Hid (w1.heap.size < w3.heap.size) := Lib.hid (by rw [e3, World.size_alloc]; exact Nat.lt_succ_self _); clear A3' g3 e3 A1 R1 Q1 M1 HB1))
  obtain ⟨gv, hgv⟩ : ∃ gv, gv = w1.heap.size := ⟨_, rfl⟩
  rw [← hgv] at A3 G1 S3 ⊢
  have q1 : w3.cell? ⟨q, 1, none⟩ = some (.map (some m)) := Q3.out.cell 1
  clear hgv
  go_wp2_with (at_range; refine wpList_range_own _ rfl _ 87 rfl 3 46 cKey Try.underlying87 chR m N D rfl M3.out ?_; intro w4 hrg4 hg4 hs4)
  go_frame
  have A4 := Lib.hid (LArr.grown (k := w3.heap.size + 5) A3.out (World.grownBy.but hg4 _) (by have := S3.out; omega))
  have R4 := Lib.hid (LArr.grown (k := w3.heap.size + 5) R3.out (World.grownBy.but hg4 _) (by have := S3.out; have := G1.out; omega))
  have H4 := Lib.hid (H3.out.grown hg4 H3.out.size (fun k e => by cases e))
  have HRG := Lib.hid hrg4
  obtain ⟨r, hr⟩ : ∃ r, r = w3.heap.size := ⟨_, rfl⟩
  rw [← hr] at HRG S3 ⊢
  have HWR : Hid (w.heap.size ≤ r) := Lib.hid (by rw [hr]; exact H3.out.size)
  clear hr hg4 hs4 hrg4 A3 R3 Q3 M3 H3 q1
  go_loopw [] (fun wr => ∃ left cnt M, Hid (wr.ranges Try.prog 3 chR m r N D left cnt) ∧ Hid (LArr wr gv M) ∧ Hid (LArr wr w.heap.size lzeros) ∧ Hid (∀ z : Int, lhas M z = if left (.int .i64 z) = true then lhas L0 z else match f z with | some x => !x.g | none => lhas L0 z) ∧ Hid (Below w.heap.size w wr)) (fun wr => wr.rangeLeft m r)
  case atStart => exact ⟨_, _, L0, HRG, A4, R4, Lib.hid (fun z => by
    rw [(HF.out z).1]
    cases f z <;> rfl), H4⟩
  case round =>
    clear HRG A4 R4 H4
    rename_i wr
    obtain ⟨left, cnt, M, hrg, hA, hR, hM, hb⟩ := hrel
    go_wp2_with (at_next; refine wpList_next_ranges _ rfl (.tmp 15) rfl 3 cKey chR (Value.int .i64) (fun x : CV => .agg #[.int .i64 x.k, .bool x.g, .slice x.A x.n x.c]) (fun key kl hkey => by obtain ⟨x, rfl, _⟩ := Maps.keyOf_int_inv Try.underlying3 hkey; exact ⟨x, rfl⟩) (fun v y hv => chR_inv v y hv) m r N D left cnt rfl hrg.out ?_ ?_)
    · intro hc0 hl0
      have HM : Hid (∀ z : Int, lhas M z = match f z with | some x => !x.g | none => lhas L0 z) := Lib.hid (fun z => by rw [hM.out z, hl0, if_neg (by simp)])
      have ML : Hid (M.length = 32) := Lib.hid hA.out.2
      clear hc0 hl0 hM hrg
      go_wp2_with (first | (with_reducible refine wpl_lload (.tmp 3) rfl rfl hA.out rfl ?_) | (with_reducible refine wpl_lstore (.tmp 2) (.tmp 24) rfl rfl hR.out rfl ML.out rfl ?_; intro w4 R4 g4 e4))
      refine bodyPost_ret (lret1 rfl _ R4 rfl) rfl ?_
      exact ⟨M, ML.out, rfl, HM.out, hb.out.grown g4 hb.out.size (fun k e => by cases e; exact Nat.le_refl _)⟩
    · intro k c kl y ps w8 cnt' hkey hlk hv hat hrg8 hcnt hgr8 hsz8 hen8
      obtain ⟨k', e1, rfl, _⟩ := Maps.keyOf_int_inv Try.underlying3 hkey
      cases e1
      have hy : y = .held (cval c) := by
        have h1 := chR_mk c
        unfold cval at h1
        rw [h1] at hv
        cases hv
        rfl
      have hfk : f k = some c := by
        have h1 := (HF.out k).1
        rw [Maps.has_true_of_atKey hat] at h1
        obtain ⟨x, hx⟩ := Option.isSome_iff_exists.1 h1.symm
        have h2 := ((HF.out k).2 x hx).2 (.held (cval x))
        rw [hat, hy] at h2
        rw [hx, cval_inj (DataW.held.inj h2)]
      have hck := ((HF.out k).2 c hfk).1
      have ML : Hid (M.length = 32) := Lib.hid hA.out.2
      have HM2 : Hid (∀ z : Int, lhas (lput M (!c.g) c.k) z = if (left (.int .i64 z) && !(Lit.int .i64 z).sameKey (.int .i64 k)) = true then lhas L0 z else match f z with | some x => !x.g | none => lhas L0 z) := Lib.hid (fun z => by
        rw [lhas_lput ML.out, hck.1]
        by_cases e : z = k
        · subst e
          rw [if_pos ⟨rfl, hck.2⟩, WideAt.sameKey_self (by unfold WideAt.IsKeyLit; trivial), hfk]
          simp
        · rw [if_neg (fun h => e h.1), sameKey_ne (fun h => e (Lit.int.inj h).2), hM.out z]
          simp)
      have hA8 := hA.out.grown hgr8 (by have := S3.out; omega)
      have hR8 := hR.out.grown hgr8 (by have := S3.out; have := G1.out; omega)
      have hb8 := hb.out.grown hgr8 hb.out.size (fun k e => by cases e; exact HWR.out)
      have X9 := Lib.hid (Blk.new3c w8 (.int .i64 c.k) (.bool c.g) (.slice c.A c.n c.c) 46)
      have Y0 := Blk.new3c (w8.alloc (.cells #[.int .i64 c.k, .bool c.g, .slice c.A c.n c.c] 46)) (.int .i64 c.k) (.bool c.g) (.slice c.A c.n c.c) 46
      have A10 := Lib.hid ((hA8.alloc (.cells #[.int .i64 c.k, .bool c.g, .slice c.A c.n c.c] 46)).alloc (.cells #[.int .i64 c.k, .bool c.g, .slice c.A c.n c.c] 46))
      have R10 := Lib.hid ((hR8.alloc (.cells #[.int .i64 c.k, .bool c.g, .slice c.A c.n c.c] 46)).alloc (.cells #[.int .i64 c.k, .bool c.g, .slice c.A c.n c.c] 46))
      have T10 := Lib.hid ((hrg8.alloc (.cells #[.int .i64 c.k, .bool c.g, .slice c.A c.n c.c] 46)).alloc (.cells #[.int .i64 c.k, .bool c.g, .slice c.A c.n c.c] 46))
      have H10 := Lib.hid ((hb8.alloc hb8.size (.cells #[.int .i64 c.k, .bool c.g, .slice c.A c.n c.c] 46)).alloc (Nat.le_trans hb8.size (by simp)) (.cells #[.int .i64 c.k, .bool c.g, .slice c.A c.n c.c] 46))
      have A9 := Lib.hid (hA8.alloc (.cells #[.int .i64 c.k, .bool c.g, .slice c.A c.n c.c] 46))
      have KB : Hid (Calls Try.prog 39 #[.agg (cl M), .slice (some ⟨(w8.alloc (.cells #[.int .i64 c.k, .bool c.g, .slice c.A c.n c.c] 46)).heap.size, 0, none⟩) 1 1] ((w8.alloc (.cells #[.int .i64 c.k, .bool c.g, .slice c.A c.n c.c] 46)).alloc (.cells #[.int .i64 c.k, .bool c.g, .slice c.A c.n c.c] 46)) fun e w' => e = .returned (.agg (cl (lput M (!c.g) c.k))) ∧ Below _ _ w') := Lib.hid (behind_any M ML.out _ [c] _ (chs_one Y0) (by simp))
      rw [World.size_alloc] at KB
      have HL2 : Hid ((lput M (!c.g) c.k).length = 32) := Lib.hid (by rw [lput_length]; exact ML.out)
      have LE : Hid (cnt' < cnt ∧ wr.rangeLeft m r = cnt) := Lib.hid ⟨hcnt, hrg.out.left_eq⟩
      have RM : Hid (r ≠ m) := Lib.hid hrg.out.ne
      clear hkey hlk hv hat hy hfk hck hcnt hgr8 hsz8 hrg hA hR hM hb hA8 hR8 hb8 hrg8 Y0
      go_wp2_with (first
        | (with_reducible refine wpl_lload (.tmp 3) rfl rfl A9.out rfl ?_)
        | (with_reducible refine wpl_seg_load aggC sizeC (.tmp 5) rfl rfl X9.out 0 [.int .i64 c.k, .bool c.g, .slice c.A c.n c.c] rfl rfl rfl ?_)
        | ((with_reducible refine KB.out.mono ?_); rintro e w11 ⟨rfl, b11⟩; have A11 := Lib.hid (A10.out.after b11); have R11 := Lib.hid (R10.out.after b11); have T11 := Lib.hid (T10.out.kept (only_of_below b11 none) (by simp) (by simp)); have H11 := Lib.hid (H10.out.trans (b11.mono H10.out.size)); clear KB b11 A10 R10 T10 H10)
        | ((with_reducible refine wpl_lstore (.tmp 3) (.tmp 23) rfl rfl A11.out rfl HL2.out rfl ?_); intro w12 A12' g12 e12; have A12 := Lib.hid A12'; have R12 := Lib.hid (R11.out.grown g12 (by have := G1.out; omega)); have T12 := Lib.hid (T11.out.kept g12 (by simp only [ne_eq, Option.some.injEq]; have := G1.out; omega) (by simp only [ne_eq, Option.some.injEq]; have := S3.out; omega)); have H12 := Lib.hid (H11.out.grown g12 H11.out.size (fun k e => by cases e; have := G1.out; omega)); clear A12' g12 e12))
      exact ⟨⟨_, _, _, _, _, _, _, _, _, ⟨_, _, _, T12, A12, R12, HM2, H12⟩, rfl⟩, by rw [T12.out.left_eq, LE.out.2]; exact LE.out.1⟩
end Go.Proofs.Ytppodbijdhcclaa

