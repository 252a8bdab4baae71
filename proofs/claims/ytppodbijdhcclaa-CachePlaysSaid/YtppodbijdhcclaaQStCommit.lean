/- Commit of the document's nodes. No condition. -/
import Derived.Test.YtppodbijdhcclaaQStRef
import Derived.Test.YtppodbijdhcclaaQChsOpen
import Derived.Test.YtppodbijdhcclaaQCacheClear
import Derived.Deep.DeepCutAuto
namespace Go.Proofs.Ytppodbijdhcclaa
open Go Go.RowKit
/-- the nodes behind what P tells -/
def overB (bs : List ByteArray) (P : Int → Option CE) : List ByteArray := (List.range 256).map (fun (k : Nat) => match P (k : Int) with | some e => ⟨e.body.toArray⟩ | none => bs.getD k ByteArray.empty)
def overT (th : List Bool) (P : Int → Option CE) : List Bool := (List.range 256).map (fun (k : Nat) => match P (k : Int) with | some e => !e.gone | none => th.getD k false)
theorem overB_len (bs : List ByteArray) (P : Int → Option CE) : (overB bs P).length = 256 := by simp [overB]
theorem overT_len (th : List Bool) (P : Int → Option CE) : (overT th P).length = 256 := by simp [overT]
theorem overB_get (bs : List ByteArray) (P : Int → Option CE) {k : Nat} (hk : k < 256) : (overB bs P).getD k ByteArray.empty = match P (k : Int) with | some e => ⟨e.body.toArray⟩ | none => bs.getD k ByteArray.empty := by
  unfold overB
  rw [List.getD_eq_getElem?_getD, List.getElem?_map, List.getElem?_range hk]
  rfl
theorem overT_get (th : List Bool) (P : Int → Option CE) {k : Nat} (hk : k < 256) : (overT th P).getD k false = match P (k : Int) with | some e => !e.gone | none => th.getD k false := by
  unfold overT
  rw [List.getD_eq_getElem?_getD, List.getElem?_map, List.getElem?_range hk]
  rfl
theorem list_eq_getD {α : Type} {l m : List α} (d : α) (hl : l.length = 256) (hm : m.length = 256) (h : ∀ k, k < 256 → l.getD k d = m.getD k d) : l = m := by
  refine List.ext_getElem (by rw [hl, hm]) (fun k h1 h2 => ?_)
  have := h k (by omega)
  simpa [List.getD_eq_getElem?_getD, List.getElem?_eq_getElem h1, List.getElem?_eq_getElem h2] using this
theorem overB_none {bs : List ByteArray} (h : bs.length = 256) : overB bs (fun _ => none) = bs := list_eq_getD ByteArray.empty (overB_len _ _) h (fun k hk => by rw [overB_get _ _ hk])
theorem overT_none {th : List Bool} (h : th.length = 256) : overT th (fun _ => none) = th := list_eq_getD false (overT_len _ _) h (fun k hk => by rw [overT_get _ _ hk])
theorem overB_put (bs : List ByteArray) (P : Int → Option CE) {k : Nat} (hk : k < 256) (g : Bool) (l : List UInt8) : overB bs (putP P (k : Int) g l) = (overB bs P).set k (if g then ByteArray.empty else ⟨l.toArray⟩) := list_eq_getD ByteArray.empty (overB_len _ _) (by rw [List.length_set]; exact overB_len _ _) (fun j hj => by
  rw [overB_get _ _ hj, List.getD_eq_getElem?_getD (l := (overB bs P).set _ _), List.getElem?_set]
  unfold putP
  by_cases e : k = j
  · subst e
    rw [if_pos rfl, if_pos rfl, if_pos (show k < (overB bs P).length by rw [overB_len]; exact hk)]
    cases g <;> rfl
  · rw [if_neg (by omega), if_neg e, ← List.getD_eq_getElem?_getD, overB_get _ _ hj])
theorem overT_put (th : List Bool) (P : Int → Option CE) {k : Nat} (hk : k < 256) (g : Bool) (l : List UInt8) : overT th (putP P (k : Int) g l) = (overT th P).set k (!g) := list_eq_getD false (overT_len _ _) (by rw [List.length_set]; exact overT_len _ _) (fun j hj => by
  rw [overT_get _ _ hj, List.getD_eq_getElem?_getD (l := (overT th P).set _ _), List.getElem?_set]
  unfold putP
  by_cases e : k = j
  · subst e
    rw [if_pos rfl, if_pos rfl, if_pos (show k < (overT th P).length by rw [overT_len]; exact hk)]
    cases g <;> rfl
  · rw [if_neg (by omega), if_neg e, ← List.getD_eq_getElem?_getD, overT_get _ _ hj])
def stZ : List Value := stCells (List.replicate 256 ByteArray.empty) (List.replicate 256 false)
def told0 : List Bool := List.replicate 256 false
def boolZ : List Value := told0.map Value.bool
theorem stZ_len : stZ.length = 512 := stCells_length List.length_replicate List.length_replicate
theorem boolZ_len : boolZ.length = 256 := by
  unfold boolZ told0
  rw [List.length_map]
  exact List.length_replicate
theorem zeroSt (w : World) : (zeroValue 30).run Try.prog w = .ok (.agg stZ.toArray) w := by kernel_rfl
theorem zeroBools (w : World) : (zeroValue 28).run Try.prog w = .ok (.agg boolZ.toArray) w := by kernel_rfl
theorem aggBools : ∀ w, (isAgg 28).run Try.prog w = .ok true w := fun _ => by kernel_rfl
theorem sizeBools : ∀ w, (sizeOf 28).run Try.prog w = .ok 256 w := fun _ => by kernel_rfl
theorem set_map_bool {l : List Bool} {j : Nat} {b : Bool} : (l.map Value.bool).set j (.bool b) = (l.set j b).map Value.bool := (List.map_set).symm
/-- the keys that were told: the array, and the set -/
def Told (w : World) (g : Nat) (M : List UInt8) : Prop := M.length = 32 ∧ ∃ tol : List Bool, Blk w g 28 (tol.map Value.bool) ∧ tol.length = 256 ∧ ∀ j, j < 256 → tol.getD j false = hasB M j
theorem Told.cell {w : World} {g : Nat} {M : List UInt8} (h : Told w g M) {j : Nat} (hj : j < 256) : w.cell? ⟨g, j, none⟩ = some (.bool (lhas M (j : Int))) := by
  obtain ⟨_, tol, hb, hl, ht⟩ := h
  rw [hb.cell, List.getElem?_map, List.getElem?_eq_getElem (by rw [hl]; exact hj)]
  have := ht j hj
  rw [List.getD_eq_getElem?_getD, List.getElem?_eq_getElem (by rw [hl]; exact hj), Option.getD_some] at this
  rw [Option.map_some, this, lhas_nat M hj]
theorem Told.grown {w w' : World} {row : Option Nat} {g : Nat} {M : List UInt8} (h : Told w g M) (hg : w.grownBy w' row) (hne : some g ≠ row) : Told w' g M := by
  obtain ⟨h1, tol, hb, hl, ht⟩ := h
  exact ⟨h1, tol, hb.grown hg hne, hl, ht⟩
theorem Told.set {w : World} {g : Nat} {M : List UInt8} (h : Told w g M) {j : Nat} (hj : j < 256) : Told (w.setCell ⟨g, j, none⟩ (.bool true)) g (lput M true (j : Int)) := by
  obtain ⟨h1, tol, hb, hl, ht⟩ := h
  refine ⟨by rw [lput_length]; exact h1, tol.set j true, ?_, by rw [List.length_set]; exact hl, fun i hi => ?_⟩
  · rw [← set_map_bool]
    exact hb.set j _
  · rw [← lhas_nat _ hi, lhas_lput h1, List.getD_eq_getElem?_getD, List.getElem?_set]
    by_cases e : j = i
    · subst e
      rw [if_pos rfl, if_pos (show j < tol.length by rw [hl]; exact hi), if_pos ⟨rfl, by omega⟩]
      rfl
    · rw [if_neg e, if_neg (by omega), lhas_nat _ hi, ← ht i hi, List.getD_eq_getElem?_getD]
theorem Told.free {w : World} {g : Nat} {M : List UInt8} (h : Told w g M) (j : Nat) : w.frozen? ⟨g, j, none⟩ = false := by
  obtain ⟨_, tol, hb, _⟩ := h
  exact hb.free j
theorem Told.lt {w : World} {g : Nat} {M : List UInt8} (h : Told w g M) : g < w.heap.size := by
  obtain ⟨_, tol, hb, _⟩ := h
  exact hb.lt
theorem hasB_lzeros (j : Nat) (hj : j < 256) : hasB lzeros j = false := by
  rw [← lhas_nat _ hj]
  have h := lhas_srcTo [] 0 (by omega) (j : Int)
  have h2 : lhas lzeros (j : Int) = _ := h
  rw [h2, decide_eq_false (by omega), Bool.false_and]
set_option maxRecDepth 100000 in
theorem Told.start {w : World} {g : Nat} (h : Blk w g 28 boolZ) : Told w g lzeros := ⟨lzeros_length, told0, h, List.length_replicate, fun j hj => by
  rw [hasB_lzeros j hj]
  unfold told0
  rw [List.getD_eq_getElem?_getD, List.getElem?_replicate, if_pos hj]
  rfl⟩
/-- what Commit answers -/
def ComC (w : World) (g o : Nat) (bs : List ByteArray) (th : List Bool) (lim : Int) (cs : List CV) (ls : List (List UInt8)) (e : Ending) (w' : World) : Prop :=
  Below w.heap.size w w' ∧
  ((rightC lzeros cs = false ∧ e = .returned (.tuple #[.pointer (some ⟨g, o, none⟩), .int .i64 1])) ∨
   (rightC lzeros cs = true ∧ lim < (cntTo (overT th (putTo (fun _ => none) cs ls cs.length)) 256 : Nat) ∧ e = .returned (.tuple #[.pointer (some ⟨g, o, none⟩), .int .i64 40])) ∨
   (rightC lzeros cs = true ∧ ¬ lim < (cntTo (overT th (putTo (fun _ => none) cs ls cs.length)) 256 : Nat) ∧ e = .returned (.tuple #[.pointer (some ⟨w.heap.size, 0, none⟩), .int .i64 0]) ∧ RSt w' w.heap.size 30 [] (overB bs (putTo (fun _ => none) cs ls cs.length)) (overT th (putTo (fun _ => none) cs ls cs.length))))
set_option maxRecDepth 100000 in
set_option maxHeartbeats 16000000 in
theorem commit_walk (g o : Nat) (bs : List ByteArray) (th : List Bool) (lim : Int) (v : Value) (cs : List CV) (ls : List (List UInt8)) (w : World) (h : StAt w g o bs th) (hc : ChL w w.heap.size v cs ls) (hz : cs.length ≤ 1000) :
    Calls Try.prog 14 #[.pointer (some ⟨g, o, none⟩), .int .i64 lim, v] w fun e w' => ComC w g o bs th lim cs ls e w' := by
  obtain ⟨A, c, rfl, hcc, hm⟩ := chL_wid hc
  obtain ⟨t, bcs, hb0, hv0, hbl, htl⟩ := id h
  have HS1 := Lib.hid hb0
  have HV := Lib.hid hv0
  have HL := Lib.hid (stCells_length hbl htl)
  have HLB := Lib.hid (And.intro hbl htl)
  have HC := Lib.hid hc
  obtain ⟨N, hN⟩ : ∃ N, cs.length = N := ⟨_, rfl⟩
  have HN := Lib.hid hN
  rw [hN] at hcc hz HC ⊢
  have z1 := zeroSt
  have z2 := zeroBools
  have l1 := stZ_len
  have l2 := boolZ_len
  have X2 := Lib.hid ((Blk.new w 30 stZ).alloc (.cells boolZ.toArray 28))
  have Y2 := Lib.hid (show Blk ((w.alloc (.cells stZ.toArray 30)).alloc (.cells boolZ.toArray 28)) (w.heap.size + 1) 28 boolZ by have h1 := Blk.new (w.alloc (.cells stZ.toArray 30)) 28 boolZ; rw [World.size_alloc] at h1; exact h1)
  have B2 := Lib.hid (((Below.refl w.heap.size w).alloc (Nat.le_refl _) (.cells stZ.toArray 30)).alloc (by simp) (.cells boolZ.toArray 28))
  clear h hc hN hb0 hv0 hbl htl
  go_enter Try.func14, Try.ntmps14
  have ST1 := Lib.hid (stCells_one (bs := bs) (th := th))
  have BZ1 := Lib.hid (show ∀ u ∈ boolZ, u.oneCell' = true from fun u hu => by obtain ⟨b, _, rfl⟩ := List.mem_map.1 hu; rfl)
  have SG1 := Lib.hid (show segSet stZ 0 (stCells bs th) = stCells bs th by
    unfold segSet
    rw [List.take_zero, List.nil_append, Nat.zero_add, HL.out, ← stZ_len, List.drop_length, List.append_nil])
  have SG2 := Lib.hid (show segSet boolZ 0 boolZ = boolZ by
    unfold segSet
    rw [List.take_zero, List.nil_append, Nat.zero_add, List.drop_length, List.append_nil])
  go_upto_region 2 with (first
    | (with_reducible refine wpl_seg_load aggSt sizeSt (.tmp 13) rfl rfl HS1.out o (stCells bs th) HV.out HL.out rfl ?_)
    | ((with_reducible refine wpl_seg_store sizeSt (.tmp 8) (.tmp 14) rfl rfl X2.out 0 (stCells bs th) HL.out (Nat.le_of_eq l1.symm) ST1.out rfl rfl _ SG1.out ?_); intro w3 X3 g3 e3; have HX3 := Lib.hid X3; have HY3 := Lib.hid (Y2.out.grown g3 (by simp)); have T3 := Lib.hid (B2.out.grown g3 B2.out.size (fun k e => by cases e; exact Nat.le_refl _)); clear X3 g3 e3)
    | ((with_reducible refine wpl_seg_store sizeBools (.tmp 9) (.tmp 15) rfl rfl HY3.out 0 boolZ l2 (Nat.le_of_eq l2.symm) BZ1.out rfl rfl _ SG2.out ?_); intro w4 X4 g4 e4; have HY4 := Lib.hid X4; have HX4 := Lib.hid (HX3.out.grown g4 (by simp)); have T4 := Lib.hid (T3.out.grown g4 T3.out.size (fun k e => by cases e; exact Nat.le_succ _)); clear X4 g4 e4 HX3 HY3 T3))
  have O4 := Lib.hid (show RSt w4 w.heap.size 30 [] (overB bs (putTo (fun _ => none) cs ls 0)) (overT th (putTo (fun _ => none) cs ls 0)) from ⟨by
    show Blk w4 _ _ (stCells (overB bs (fun _ => none)) (overT th (fun _ => none)) ++ [])
    rw [overB_none HLB.out.1, overT_none HLB.out.2, List.append_nil]
    exact HX4.out, overB_len _ _, overT_len _ _⟩)
  have D4 := Lib.hid (Told.start HY4.out)
  obtain ⟨G, hG⟩ : ∃ G, G = w.heap.size := ⟨_, rfl⟩
  have HG := Lib.hid hG
  have HGE : Hid (w.heap.size ≤ G) := Lib.hid (Nat.le_of_eq hG.symm)
  rw [← hG] at O4 D4 ⊢
  clear X2 Y2 B2 HX4 HY4 SG1 SG2 ST1 BZ1 HV HL hG z1 z2 l1 l2
  go_wp2_with fail
  go_loopw [10] (fun i wr => ∃ (k : Nat) (M : List UInt8), k ≤ N ∧ i = .int .i64 k ∧ Hid (RSt wr G 30 [] (overB bs (putTo (fun _ => none) cs ls k)) (overT th (putTo (fun _ => none) cs ls k))) ∧ Hid (Told wr (G + 1) M) ∧ Hid (rightC lzeros cs = rightC M (cs.drop k)) ∧ Hid (Below w.heap.size w wr)) (fun i _ => N - (intOf i).toNat)
  case atStart => exact ⟨0, lzeros, Nat.zero_le _, rfl, O4, D4, Lib.hid rfl, T4⟩
  case round =>
    clear O4 D4 T4
    rename_i wr
    obtain ⟨k, M, hk, rfl, hO, hD, hR, hb⟩ := hrel
    by_cases hlt : k < N
    · obtain ⟨x, hx⟩ : ∃ x, cs[k]? = some x := ⟨_, List.getElem?_eq_getElem (by rw [HN.out]; exact hlt)⟩
      have d0 : decide ((k : Int) < (N : Int)) = true := by simp; omega
      obtain ⟨a, rfl, hab, hck⟩ := (HC.out.below hb.out).rows.elem hx
      have hby := HC.out.bods.2 k x hx
      have HT := hR.out.trans (rightC_next hx)
      obtain ⟨xk, xg, xA, xn, xc⟩ := x
      obtain ⟨l, hl⟩ : ∃ l, l = ls.getD k [] := ⟨_, rfl⟩
      rw [← hl] at hby
      have HNX : Hid (putTo (fun _ => none) cs ls (k + 1) = putP (putTo (fun _ => none) cs ls k) xk xg l) := Lib.hid (by
        show putP _ (cs.getD k _).k (cs.getD k _).g (ls.getD k []) = _
        rw [List.getD_eq_getElem?_getD, hx, ← hl]
        rfl)
      have HLL : Hid (l.length = xn) := Lib.hid (by obtain ⟨_, _, e, _⟩ := hby; simp only [Value.slice.injEq] at e; exact e.2.1.symm)
      have HCK := Lib.hid (show ∀ j u, ([.int .i64 xk, .bool xg, .slice xA xn xc] : List Value)[j]? = some u → wr.cell? ((a.add (k * 3)).add j) = some u from hck)
      have HTy : Hid (fitC ⟨xk, xg, xA, xn, xc⟩ = true ∧ lhas M xk = false → rightC lzeros cs = rightC (lput M true xk) (cs.drop (k + 1))) := Lib.hid (fun h => HT.trans (if_pos h))
      have HTn : Hid (¬ (fitC ⟨xk, xg, xA, xn, xc⟩ = true ∧ lhas M xk = false) → rightC lzeros cs = false) := Lib.hid (fun h => HT.trans (if_neg h))
      have B2 := Lib.hid ((Below.refl wr.heap.size wr).alloc (Nat.le_refl _) (.cells #[.int .i64 xk, .bool xg, .slice xA xn xc] 46))
      have X2 := Lib.hid (Blk.new3c wr (.int .i64 xk) (.bool xg) (.slice xA xn xc) 46)
      have HBY := Lib.hid hby
      have O2 := Lib.hid (hO.out.after B2.out)
      have D2 := Lib.hid (hD.out.grown (only_of_below B2.out none) (by simp))
      have T2 := Lib.hid (hb.out.trans (B2.out.mono hb.out.size))
      have PP : Hid (G < wr.heap.size ∧ G + 1 < wr.heap.size) := Lib.hid ⟨hO.out.lt, hD.out.lt⟩
      clear hck hx hby hl hR HT
      go_upto_region 6 with (with_reducible refine wpl_cells (q := a.add (k * 3)) (row := [.int .i64 xk, .bool xg, .slice xA xn xc]) aggC sizeC (.tmp 24) rfl rfl rfl rfl HCK.out ?_)
      obtain ⟨W2, hW2⟩ : ∃ W2, W2 = wr.alloc (.cells #[.int .i64 xk, .bool xg, .slice xA xn xc] 46) := ⟨_, rfl⟩
      rw [← hW2] at X2 O2 D2 T2 ⊢
      obtain ⟨p, hp⟩ : ∃ p, p = wr.heap.size := ⟨_, rfl⟩
      rw [← hp] at X2 PP ⊢
      clear hW2 hp hO hD hb B2 HCK
      have x0 := X2.out.cell 0
      have x2 := X2.out.cell 2
      simp only [List.getElem?_cons_zero, List.getElem?_cons_succ] at x0 x2
      by_cases hfit : (0 ≤ xk ∧ xk < 256) ∧ xn ≤ 224
      · obtain ⟨j, rfl⟩ : ∃ j : Nat, xk = (j : Int) := ⟨xk.toNat, by omega⟩
        have hj : j < 256 := by omega
        have d1 : decide ((j : Int) < 0) = false := by simp
        have d2 : decide ((255 : Int) < (j : Int)) = false := by simp; omega
        have d3 : decide ((224 : Int) < (xn : Int)) = false := by simp; omega
        have d4 : (j : Int) < 256 := by omega
        have d5 : ¬ 256 ≤ j := by omega
        have d6 : ¬ (256 : Int) ≤ (j : Int) := by omega
        have hf : Hid (fitC ⟨(j : Int), xg, xA, xn, xc⟩ = true) := Lib.hid (by unfold fitC; simp; omega)
        have c1 := D2.out.cell hj
        obtain ⟨b, hb⟩ : ∃ b, b = lhas M (j : Int) := ⟨_, rfl⟩
        rw [← hb] at c1
        have HB2 := Lib.hid hb
        clear hb
        cases b with
        | true =>
          have hfin : Hid (rightC lzeros cs = false) := Lib.hid (HTn.out (fun h => by rw [← HB2.out] at h; exact absurd h.2 (by simp)))
          go_wp2_with fail
          go_ret2
          exact ⟨T2.out, .inl ⟨hfin.out, rfl⟩⟩
        | false =>
          have hnx : Hid (rightC lzeros cs = rightC (lput M true (j : Int)) (cs.drop (k + 1))) := Lib.hid (HTy.out ⟨hf.out, HB2.out.symm⟩)
          have hnb := Lib.hid (overB_put bs (putTo (fun _ => none) cs ls k) hj xg l)
          have hnt := Lib.hid (overT_put th (putTo (fun _ => none) cs ls k) hj xg l)
          clear HTy HTn HB2
          go_upto_region 8 with fail
          have f1 := D2.out.free j
          go_upto_region 9 with fail
          have s3 := only_set W2 ⟨G + 1, j, none⟩ (.bool true)
          have D3 := Lib.hid (D2.out.set hj)
          have X3 := Lib.hid (X2.out.grown s3 (by simp only [ne_eq, Option.some.injEq]; have := PP.out; omega))
          have O3 := Lib.hid (O2.out.grown s3 (by simp))
          have T3 := Lib.hid (T2.out.grown s3 T2.out.size (fun q e => by cases e; first | exact HGE.out | exact Nat.le_trans HGE.out (Nat.le_succ _)))
          obtain ⟨W3, hW3⟩ : ∃ W3, W3 = W2.setCell ⟨G + 1, j, none⟩ (.bool true) := ⟨_, rfl⟩
          rw [← hW3] at D3 X3 O3 T3 ⊢
          clear hW3 s3 D2 X2 O2 T2 x0 x2 c1 f1
          have x0 := X3.out.cell 0
          have x1 := X3.out.cell 1
          simp only [List.getElem?_cons_zero, List.getElem?_cons_succ] at x0 x1
          have c2 := O3.out.there hj
          have f2 := O3.out.free (256 + j)
          go_upto_region 10 with fail
          have s4 := only_set W3 ⟨G, 256 + j, none⟩ (.bool !xg)
          have O4 := Lib.hid (O3.out.setThere hj (!xg))
          have D4 := Lib.hid (D3.out.grown s4 (by simp))
          have X4 := Lib.hid (X3.out.grown s4 (by simp only [ne_eq, Option.some.injEq]; have := PP.out; omega))
          have T4 := Lib.hid (T3.out.grown s4 T3.out.size (fun q e => by cases e; first | exact HGE.out | exact Nat.le_trans HGE.out (Nat.le_succ _)))
          obtain ⟨W4, hW4⟩ : ∃ W4, W4 = W3.setCell ⟨G, 256 + j, none⟩ (.bool !xg) := ⟨_, rfl⟩
          rw [← hW4] at D4 X4 O4 T4 ⊢
          clear hW4 s4 D3 X3 O3 T3 x0 x1 c2 f2
          have x0 := X4.out.cell 0
          simp only [List.getElem?_cons_zero] at x0
          have c3 := O4.out.body hj
          have f3 := O4.out.free j
          go_upto_region 11 with fail
          have s5 := only_set W4 ⟨G, j, none⟩ (.string ByteArray.empty)
          have O5 := Lib.hid (O4.out.setBody hj ByteArray.empty)
          have D5 := Lib.hid (D4.out.grown s5 (by simp))
          have X5 := Lib.hid (X4.out.grown s5 (by simp only [ne_eq, Option.some.injEq]; have := PP.out; omega))
          have T5 := Lib.hid (T4.out.grown s5 T4.out.size (fun q e => by cases e; first | exact HGE.out | exact Nat.le_trans HGE.out (Nat.le_succ _)))
          obtain ⟨W5, hW5⟩ : ∃ W5, W5 = W4.setCell ⟨G, j, none⟩ (.string ByteArray.empty) := ⟨_, rfl⟩
          have es : (Value.string { data := #[] } : Value) = .string ByteArray.empty := rfl
          try rw [es]
          rw [← hW5] at D5 X5 O5 T5 ⊢
          clear hW5 s5 D4 X4 O4 T4 x0 c3 f3 es
          have x1 := X5.out.cell 1
          simp only [List.getElem?_cons_zero, List.getElem?_cons_succ] at x1
          cases xg with
          | true =>
            go_wp2_with fail
            exact ⟨⟨k + 1, lput M true (j : Int), by omega, by go_num, Lib.hid (by rw [HNX.out, hnb.out, hnt.out]; exact O5.out), D5, hnx, T5⟩, by simp [intOf]; omega⟩
          | false =>
            have x0 := X5.out.cell 0
            have x2 := X5.out.cell 2
            simp only [List.getElem?_cons_zero, List.getElem?_cons_succ] at x0 x2
            have c4 := O5.out.body hj
            have f4 := O5.out.free j
            have hrun := run_str (st := 9) byteTys Try.underlying5 Try.underlying9 (HBY.out.below T5.out)
            go_wp2_with fail
            have s6 := only_set W5 ⟨G, j, none⟩ (.string ⟨l.toArray⟩)
            have O6 := Lib.hid (O5.out.setBody hj ⟨l.toArray⟩)
            exact ⟨⟨k + 1, lput M true (j : Int), by omega, by go_num, Lib.hid (by rw [HNX.out, hnb.out, hnt.out]; have h1 := O6.out; rw [List.set_set] at h1; exact h1), Lib.hid (D5.out.grown s6 (by simp)), hnx, Lib.hid (T5.out.grown s6 T5.out.size (fun q e => by cases e; first | exact HGE.out | exact Nat.le_trans HGE.out (Nat.le_succ _)))⟩, by simp [intOf]; omega⟩
      · have hfin : Hid (rightC lzeros cs = false) := Lib.hid (HTn.out (by
          rintro ⟨h, _⟩
          unfold fitC at h
          simp at h
          exact hfit ⟨h.1, h.2⟩))
        by_cases h1 : xk < 0
        · have d1 : decide (xk < 0) = true := decide_eq_true h1
          go_wp2_with fail
          go_ret2
          exact ⟨T2.out, .inl ⟨hfin.out, rfl⟩⟩
        · have d1 : decide (xk < 0) = false := decide_eq_false h1
          by_cases h2 : 255 < xk
          · have d2 : decide (255 < xk) = true := decide_eq_true h2
            go_wp2_with fail
            go_ret2
            exact ⟨T2.out, .inl ⟨hfin.out, rfl⟩⟩
          · have d2 : decide (255 < xk) = false := decide_eq_false h2
            have d3 : decide ((224 : Int) < (xn : Int)) = true := by simp; omega
            go_wp2_with fail
            go_ret2
            exact ⟨T2.out, .inl ⟨hfin.out, rfl⟩⟩
    · obtain rfl : k = N := by omega
      have d0 : decide ((k : Int) < (k : Int)) = false := by simp
      rw [List.drop_of_length_le (by rw [HN.out]; exact Nat.le_refl _)] at hR
      have KC := Lib.hid (count_any G 0 _ _ wr hO.out.at0)
      obtain ⟨n, hn⟩ : ∃ n, n = cntTo (overT th (putTo (fun _ => none) cs ls k)) 256 := ⟨_, rfl⟩
      rw [← hn] at KC
      have HNN := Lib.hid hn
      clear hn
      by_cases hl : lim < (n : Int)
      · have d1 : decide (lim < (n : Int)) = true := decide_eq_true hl
        go_wp2_with ((with_reducible refine KC.out.mono ?_); rintro e w5 ⟨rfl, rfl⟩; clear KC)
        go_ret2
        exact ⟨hb.out, .inr (.inl ⟨hR.out, by rw [HN.out, ← HNN.out]; exact hl, rfl⟩)⟩
      · have d1 : decide (lim < (n : Int)) = false := decide_eq_false hl
        go_wp2_with ((with_reducible refine KC.out.mono ?_); rintro e w5 ⟨rfl, rfl⟩; clear KC)
        go_ret2
        exact ⟨hb.out, .inr (.inr ⟨hR.out, by rw [HN.out, ← HNN.out]; omega, by rw [← HG.out]; rfl, by rw [HN.out, ← HG.out]; exact hO.out⟩)⟩
end Go.Proofs.Ytppodbijdhcclaa

