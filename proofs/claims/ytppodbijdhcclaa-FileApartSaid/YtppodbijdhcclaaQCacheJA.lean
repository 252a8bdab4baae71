/- Several texts of the proof, joined: what each has is said at its head. -/
import Derived.Test.YtppodbijdhcclaaQCore
import Derived.Test.YtppodbijdhcclaaQLiveJ
import Derived.Test.YtppodbijdhcclaaQWearCells
import Derived.Deep.DeepCutAuto
/- bytes.Clone, and a change of one's own. No condition. -/
namespace Go.Proofs.Ytppodbijdhcclaa
open Go Go.RowKit
theorem nil_none (c : Nat) (w : World) : (binOp .eql 44 (.slice none 0 c) (.slice none 0 0)).run Try.prog w = .ok (.bool true) w := by kernel_rfl
theorem nil_some (a : Addr) (n c : Nat) (w : World) : (binOp .eql 44 (.slice (some a) n c) (.slice none 0 0)).run Try.prog w = .ok (.bool false) w := by kernel_rfl
set_option maxRecDepth 100000 in
set_option maxHeartbeats 4000000 in
theorem bclone_any (v : Value) (l : List UInt8) (w : World) (hv : Bytes w w.heap.size v l) (hl : l.length ≤ 100000) :
    Calls Try.prog 43 #[v] w fun e w' => ∃ A c, e = .returned (.slice A l.length c) ∧ Own 5 w' w.heap.size (.slice A l.length c) l ∧ Below w.heap.size w w' := by
  obtain ⟨A, c, rfl, hc, hm, hr⟩ := hv
  obtain ⟨n, hn⟩ : ∃ n, l.length = n := ⟨_, rfl⟩
  have HN := Lib.hid hn
  rw [hn] at hc hl ⊢
  clear hn
  cases A with
  | none =>
    have h0 : l = [] := by
      cases l with
      | nil => rfl
      | cons x r => obtain ⟨a, e, _⟩ := hr 0 _ rfl; cases e
    subst h0
    obtain rfl : n = 0 := HN.out.symm
    clear hr
    have he := nil_none c
    go_enter Try.func43, Try.ntmps43
    go_wp2_with fail
    go_ret
    exact ⟨none, 0, rfl, Own.empty, Below.refl _ _⟩
  | some a =>
    have O0 := Lib.hid (Own.made (e := 5) (w := w) (base := w.heap.size) #[] 0 (Nat.le_refl _) (by simp [maxLen]) rfl w.heap.size rfl)
    have B0 := Lib.hid ((Below.refl w.heap.size w).alloc (Nat.le_refl _) (.cells #[] 5))
    have HR := Lib.hid (hr.below B0.out)
    have he := nil_some a n c
    clear hr
    go_enter Try.func43, Try.ntmps43
    go_wp2_with (at_builtin; go_loud (refine wpl_append_bytes byteTys rfl (.tmp 5) (.tmp 6) rfl rfl O0.out w.heap.size (.slice (some a) n c) l rfl ⟨some a, c, by rw [HN.out], by rw [HN.out]; exact hc, hm, HR.out⟩ (by simp only [List.length_nil]; have := HN.out; omega) (by simp) n (by simp [HN.out]) ?_); intro A7 c7 w7 O7 g7 h7; have HO := Lib.hid O7; have HG := Lib.hid g7; clear O7 g7 h7)
    go_ret
    exact ⟨A7, c7, rfl, HO.out, B0.out.trans HG.out⟩
end Go.Proofs.Ytppodbijdhcclaa

/- A change of one's own. No condition. -/
namespace Go.Proofs.Ytppodbijdhcclaa
open Go Go.RowKit
/-- a change, plainly: what it says of its node -/
structure CE where
  gone : Bool
  body : List UInt8
def chv (k : Int) (g : Bool) (v : Value) : List Value := [.int .i64 k, .bool g, v]
theorem aggC : ∀ w, (isAgg 46).run Try.prog w = .ok true w := fun _ => by kernel_rfl
theorem sizeC : ∀ w, (sizeOf 46).run Try.prog w = .ok 3 w := fun _ => by kernel_rfl
theorem Blk.new3c (w : World) (x y z : Value) (t : TypeId) : Blk (w.alloc (.cells #[x, y, z] t)) w.heap.size t [x, y, z] := heap_alloc_new w _
set_option maxRecDepth 100000 in
set_option maxHeartbeats 4000000 in
/-- what 'own' gives: no body where it is gone -/
theorem own_any (k : Int) (g : Bool) (v : Value) (l : List UInt8) (w : World) (hv : Bytes w w.heap.size v l) (hl : l.length ≤ 100000) :
    Calls Try.prog 40 #[.agg #[.int .i64 k, .bool g, v]] w fun e w' => ∃ A c n, Hid ((if g then [] else l).length = n) ∧ e = .returned (.agg #[.int .i64 k, .bool g, .slice A n c]) ∧ Own 5 w' w.heap.size (.slice A n c) (if g then [] else l) ∧ Below w.heap.size w w' := by
  obtain ⟨A, c, rfl, hc, hm, hr⟩ := id hv
  obtain ⟨n, hn⟩ : ∃ n, l.length = n := ⟨_, rfl⟩
  have HN := Lib.hid hn
  have HV := Lib.hid hv
  rw [hn] at hc hl HV ⊢
  clear hn hv hr
  have B0 := Lib.hid ((Blk.new3c w (.int .i64 k) (.bool g) (.slice A n c) 46).alloc (.cells #[.int .i64 0, .bool false, .slice none 0 0] 46))
  have R0' := Blk.new3c (w.alloc (.cells #[.int .i64 k, .bool g, .slice A n c] 46)) (.int .i64 0) (.bool false) (.slice none 0 0) 46
  rw [World.size_alloc] at R0'
  have R0 := Lib.hid R0'
  have H0 : Hid (Below w.heap.size w ((w.alloc (.cells #[.int .i64 k, .bool g, .slice A n c] 46)).alloc (.cells #[.int .i64 0, .bool false, .slice none 0 0] 46))) := Lib.hid (((Below.refl w.heap.size w).alloc (Nat.le_refl _) _).alloc (by simp) _)
  clear R0'
  obtain ⟨gs, hgs⟩ : ∃ gs, gs = w.heap.size := ⟨_, rfl⟩
  go_enter Try.func40, Try.ntmps40
  cases g with
  | true =>
    go_wp2_with (first | (with_reducible refine wpl_seg_store sizeC (.tmp 2) (.tmp 7) rfl rfl R0.out 0 [.int .i64 k, .bool true, .slice none 0 0] rfl (Nat.le_refl _) (by simp [Value.oneCell']) rfl rfl _ rfl ?_); intro w4 R4 g4 e4)
    refine bodyPost_ret (sret1 aggC sizeC rfl _ R4 (i := 0) (vs := [.int .i64 k, .bool true, .slice none 0 0]) rfl rfl rfl) rfl ?_
    exact ⟨none, 0, 0, Lib.hid rfl, rfl, Own.empty, H0.out.grown g4 H0.out.size (fun q e => by cases e; exact Nat.le_succ _)⟩
  | false =>
    have KC := Lib.hid (bclone_any (.slice A n c) l _ ((HV.out.below H0.out).more H0.out.size) (by rw [HN.out]; exact hl))
    rw [HN.out] at KC
    go_wp2_with fail
    refine KC.out.mono ?_
    rintro e w3 ⟨A3, c3, rfl, O3, b3⟩
    have B3 := Lib.hid (B0.out.after b3)
    have R3 := Lib.hid (R0.out.after b3)
    have H3 := Lib.hid (H0.out.trans (b3.mono H0.out.size))
    have HO3 := Lib.hid (O3.lower (base' := w.heap.size + 2) (by simp))
    clear KC b3 O3 B0 R0 H0
    have x3 : w3.cell? ⟨w.heap.size, 2, none⟩ = some (.slice A n c) := B3.out.cell 2
    have f3 := B3.out.free 2
    have B4 := Lib.hid (B3.out.set 2 (.slice A3 n c3))
    have s4 := only_set w3 ⟨w.heap.size, 2, none⟩ (.slice A3 n c3)
    have R4 := Lib.hid (R3.out.grown s4 (by simp))
    have H4 := Lib.hid (H3.out.grown s4 H3.out.size (fun q e => by cases e; exact Nat.le_refl _))
    have O4 := Lib.hid (HO3.out.kept s4 (.inr (fun e => by have h1 : w.heap.size + 2 ≤ w.heap.size := (World.ownsRow.lt HO3.out _ e).1; omega)))
    clear s4
    go_wp2_with (first
      | (with_reducible refine wpl_seg_load aggC sizeC (.tmp 1) rfl rfl B4.out 0 [.int .i64 k, .bool false, .slice A3 n c3] rfl rfl rfl ?_)
      | ((with_reducible refine wpl_seg_store sizeC (.tmp 2) (.tmp 12) rfl rfl R4.out 0 [.int .i64 k, .bool false, .slice A3 n c3] rfl (Nat.le_refl _) (by simp [Value.oneCell']) rfl rfl _ rfl ?_); intro w5 R5 g5 e5))
    refine bodyPost_ret (sret1 aggC sizeC rfl _ R5 (i := 0) (vs := [.int .i64 k, .bool false, .slice A3 n c3]) rfl rfl rfl) rfl ?_
    exact ⟨A3, c3, n, HN, rfl, (O4.out.kept g5 (.inr (fun e => by have h1 : w.heap.size + 2 ≤ w.heap.size + 1 := (World.ownsRow.lt O4.out _ e).1; omega))).lower (by omega), H4.out.grown g5 H4.out.size (fun q e => by cases e; exact Nat.le_succ _)⟩
end Go.Proofs.Ytppodbijdhcclaa

/- Which nodes there are behind changes. No condition. -/
namespace Go.Proofs.Ytppodbijdhcclaa
open Go Go.RowKit
/-- a change as it lies in memory -/
structure CV where
  k : Int
  g : Bool
  A : Option Addr
  n : Nat
  c : Nat
def crow (x : CV) : List Value := [.int .i64 x.k, .bool x.g, .slice x.A x.n x.c]
def Chs (w : World) (B : Nat) (v : Value) (cs : List CV) : Prop := ∃ A c, v = .slice A cs.length c ∧ cs.length ≤ c ∧ c ≤ maxLen ∧ Row w B A (cs.flatMap crow)
theorem crow_len (c : CV) : (crow c).length = 3 := rfl
theorem crows_get : ∀ (cs : List CV) (i j : Nat) (c : CV) (u : Value), cs[i]? = some c → (crow c)[j]? = some u → (cs.flatMap crow)[i * 3 + j]? = some u
  | [], i, j, c, u, h, _ => by simp at h
  | x :: xs, 0, j, c, u, h, hu => by
    cases h
    have hj : j < 3 := (List.getElem?_eq_some_iff.1 hu).1
    rw [List.flatMap_cons, Nat.zero_mul, Nat.zero_add, List.getElem?_append_left (by rw [crow_len]; exact hj)]
    exact hu
  | x :: xs, i + 1, j, c, u, h, hu => by
    rw [List.flatMap_cons, List.getElem?_append_right (by rw [crow_len]; omega), crow_len, show (i + 1) * 3 + j - 3 = i * 3 + j by omega]
    exact crows_get xs i j c u h hu
theorem Chs.elem {w : World} {B : Nat} {A : Option Addr} {n c : Nat} {cs : List CV} (h : Chs w B (.slice A n c) cs) {k : Nat} {x : CV} (hk : cs[k]? = some x) : ∃ a, A = some a ∧ a.block < B ∧ ∀ j u, (crow x)[j]? = some u → w.cell? ((a.add (k * 3)).add j) = some u := by
  obtain ⟨A', c', e, _, _, hr⟩ := h
  cases e
  obtain ⟨a, rfl, hb, _⟩ := hr (k * 3 + 0) _ (crows_get cs k 0 x _ hk rfl)
  refine ⟨a, rfl, hb, fun j u hu => ?_⟩
  obtain ⟨a', e, _, hc⟩ := hr (k * 3 + j) _ (crows_get cs k j x u hk hu)
  cases e
  rw [Addr.add_add]
  exact hc
theorem Chs.below {w w' : World} {B : Nat} {v : Value} {cs : List CV} (h : Chs w B v cs) (hb : Below B w w') : Chs w' B v cs := by
  obtain ⟨A, c, h1, h2, h3, h4⟩ := h
  exact ⟨A, c, h1, h2, h3, h4.below hb⟩
/-- the set behind changes -/
def behL (L : List UInt8) (cs : List CV) : List UInt8 := cs.foldl (fun L c => lput L (!c.g) c.k) L
theorem behL_length : ∀ (cs : List CV) (L : List UInt8), (behL L cs).length = L.length
  | [], _ => rfl
  | c :: cs, L => by
    show (behL (lput L (!c.g) c.k) cs).length = _
    rw [behL_length cs, lput_length]
theorem behL_take (L : List UInt8) {cs : List CV} {k : Nat} {x : CV} (h : cs[k]? = some x) : behL L (cs.take (k + 1)) = lput (behL L (cs.take k)) (!x.g) x.k := by
  rw [List.take_add_one, h]
  unfold behL
  rw [List.foldl_append]
  rfl
theorem row_int (w : World) (z : Int) : Row (w.alloc (.cells #[.int .i64 z] 3)) (w.alloc (.cells #[.int .i64 z] 3)).heap.size (some ⟨w.heap.size, 0, none⟩) ([z].map (Value.int .i64)) := fun j u hu => by
  have hB : Blk (w.alloc (.cells #[.int .i64 z] 3)) w.heap.size 3 [.int .i64 z] := heap_alloc_new w _
  refine ⟨⟨w.heap.size, 0, none⟩, rfl, hB.lt, ?_⟩
  rw [show (⟨w.heap.size, 0, none⟩ : Addr).add j = ⟨w.heap.size, j, none⟩ by simp [Addr.add_lit], hB.cell]
  exact hu
set_option maxRecDepth 100000 in
set_option maxHeartbeats 8000000 in
theorem behind_any (L : List UInt8) (hL : L.length = 32) (v : Value) (cs : List CV) (w : World) (hr : Chs w w.heap.size v cs) (hz : cs.length ≤ 1000) :
    Calls Try.prog 39 #[.agg (cl L), v] w fun e w' => e = .returned (.agg (cl (behL L cs))) ∧ Below w.heap.size w w' := by
  obtain ⟨A, c, rfl, hc, hm, _⟩ := id hr
  have A0 := larr_one w hL lzeros
  have R0 := larr_two w L lzeros_length
  have B0 := Lib.hid (lhb_two w L lzeros)
  have z0 := zeroLive
  have HR := Lib.hid hr
  have HL := Lib.hid hL
  obtain ⟨N, hN⟩ : ∃ N, cs.length = N := ⟨_, rfl⟩
  have HN := Lib.hid hN
  rw [hN] at hc hz HR ⊢
  clear hr hL hN
  go_enter Try.func39, Try.ntmps39
  go_wp2_with fail
  go_loopw [9] (fun i wr => ∃ k : Nat, k ≤ N ∧ i = .int .i64 k ∧ Hid (LArr wr w.heap.size (behL L (cs.take k))) ∧ Hid (LArr wr (w.heap.size + 1) lzeros) ∧ Hid (Below w.heap.size w wr)) (fun i _ => N - (intOf i).toNat)
  case atStart => exact ⟨0, Nat.zero_le _, rfl, A0, R0, B0⟩
  case round =>
    clear A0 R0 B0
    rename_i wr
    obtain ⟨k, hk, rfl, hA, hR, hb⟩ := hrel
    by_cases hlt : k < N
    · obtain ⟨x, hx⟩ : ∃ x, cs[k]? = some x := ⟨_, List.getElem?_eq_getElem (by rw [HN.out]; exact hlt)⟩
      obtain ⟨a, rfl, hab, hck⟩ := (HR.out.below hb.out).elem hx
      have HT := Lib.hid (behL_take L hx)
      obtain ⟨M, hM⟩ : ∃ M, M = behL L (cs.take k) := ⟨_, rfl⟩
      rw [← hM] at HT hA
      have HM : Hid (M.length = 32) := Lib.hid (by rw [hM, behL_length]; exact HL.out)
      obtain ⟨xk, xg, xA, xn, xc⟩ := x
      have HCK := Lib.hid (show ∀ j u, ([.int .i64 xk, .bool xg, .slice xA xn xc] : List Value)[j]? = some u → wr.cell? ((a.add (k * 3)).add j) = some u from hck)
      simp only at HT
      clear hM hck hx
      go_upto_region 4 with (with_reducible refine wpl_cells (q := a.add (k * 3)) (row := [.int .i64 xk, .bool xg, .slice xA xn xc]) aggC sizeC (.tmp 11) rfl rfl rfl rfl HCK.out ?_)
      have x1' : (wr.alloc (.cells #[.int .i64 xk, .bool xg, .slice xA xn xc] 46)).cell? ⟨wr.heap.size, 1, none⟩ = some (.bool xg) := (Blk.new3c wr _ _ _ _).cell 1
      have x0' : (wr.alloc (.cells #[.int .i64 xk, .bool xg, .slice xA xn xc] 46)).cell? ⟨wr.heap.size, 0, none⟩ = some (.int .i64 xk) := (Blk.new3c wr _ _ _ _).cell 0
      have A3 := Lib.hid (hA.out.alloc (.cells #[.int .i64 xk, .bool xg, .slice xA xn xc] 46))
      have R3 := Lib.hid (hR.out.alloc (.cells #[.int .i64 xk, .bool xg, .slice xA xn xc] 46))
      have H3 := Lib.hid (hb.out.alloc hb.out.size (.cells #[.int .i64 xk, .bool xg, .slice xA xn xc] 46))
      obtain ⟨W3, hW3⟩ : ∃ W3, W3 = wr.alloc (.cells #[.int .i64 xk, .bool xg, .slice xA xn xc] 46) := ⟨_, rfl⟩
      rw [← hW3] at x1' x0' A3 R3 H3 ⊢
      obtain ⟨p, hp⟩ : ∃ p, p = wr.heap.size := ⟨_, rfl⟩
      rw [← hp] at x1' x0' ⊢
      have HL2 : Hid ((lput M (!xg) xk).length = 32) := Lib.hid (by rw [lput_length]; exact HM.out)
      clear hW3 hp hA hR HCK hb
      cases xg with
      | true =>
        have KW : Hid (Calls Try.prog 65 #[.agg (cl M), .slice (some ⟨W3.heap.size, 0, none⟩) 1 1] (W3.alloc (.cells #[.int .i64 xk] 3)) fun e w' => e = .returned (.agg (cl (lput M (!true) xk))) ∧ Below (W3.alloc (.cells #[.int .i64 xk] 3)).heap.size (W3.alloc (.cells #[.int .i64 xk] 3)) w') := Lib.hid (without_any M HM.out (some ⟨W3.heap.size, 0, none⟩) 1 [xk] (W3.alloc (.cells #[.int .i64 xk] 3)) (row_int W3 xk) (by simp))
        go_wp2_with (first
          | (with_reducible refine wpl_lload (.tmp 2) rfl rfl A3.out rfl ?_)
          | ((with_reducible refine KW.out.mono ?_); rintro e w5 ⟨rfl, b5⟩; have A5 := Lib.hid ((A3.out.alloc (.cells #[.int .i64 xk] 3)).after b5); have R5 := Lib.hid ((R3.out.alloc (.cells #[.int .i64 xk] 3)).after b5); have H5 := Lib.hid ((H3.out.alloc H3.out.size (.cells #[.int .i64 xk] 3)).trans (b5.mono (Nat.le_trans H3.out.size (by simp)))); clear KW b5)
          | ((with_reducible refine wpl_lstore (.tmp 2) (.tmp 19) rfl rfl A5.out rfl HL2.out rfl ?_); intro w6 A6 g6 e6; have HA6 := Lib.hid A6; have HR6 := Lib.hid (R5.out.grown g6 (by omega)); have H6 := Lib.hid (H5.out.grown g6 H5.out.size (fun k e => by cases e; exact Nat.le_refl _)); clear A6 g6 e6))
        exact ⟨⟨k + 1, by omega, by go_num, Lib.hid (by rw [HT.out]; exact HA6.out), HR6, H6⟩, by simp [intOf]; omega⟩
      | false =>
        have KW : Hid (Calls Try.prog 64 #[.agg (cl M), .slice (some ⟨W3.heap.size, 0, none⟩) 1 1] (W3.alloc (.cells #[.int .i64 xk] 3)) fun e w' => e = .returned (.agg (cl (lput M (!false) xk))) ∧ Below (W3.alloc (.cells #[.int .i64 xk] 3)).heap.size (W3.alloc (.cells #[.int .i64 xk] 3)) w') := Lib.hid (with_any M HM.out (some ⟨W3.heap.size, 0, none⟩) 1 [xk] (W3.alloc (.cells #[.int .i64 xk] 3)) (row_int W3 xk) (by simp))
        go_wp2_with (first
          | (with_reducible refine wpl_lload (.tmp 2) rfl rfl A3.out rfl ?_)
          | ((with_reducible refine KW.out.mono ?_); rintro e w5 ⟨rfl, b5⟩; have A5 := Lib.hid ((A3.out.alloc (.cells #[.int .i64 xk] 3)).after b5); have R5 := Lib.hid ((R3.out.alloc (.cells #[.int .i64 xk] 3)).after b5); have H5 := Lib.hid ((H3.out.alloc H3.out.size (.cells #[.int .i64 xk] 3)).trans (b5.mono (Nat.le_trans H3.out.size (by simp)))); clear KW b5)
          | ((with_reducible refine wpl_lstore (.tmp 2) (.tmp 24) rfl rfl A5.out rfl HL2.out rfl ?_); intro w6 A6 g6 e6; have HA6 := Lib.hid A6; have HR6 := Lib.hid (R5.out.grown g6 (by omega)); have H6 := Lib.hid (H5.out.grown g6 H5.out.size (fun k e => by cases e; exact Nat.le_refl _)); clear A6 g6 e6))
        exact ⟨⟨k + 1, by omega, by go_num, Lib.hid (by rw [HT.out]; exact HA6.out), HR6, H6⟩, by simp [intOf]; omega⟩
    · obtain rfl : k = N := by omega
      rw [List.take_of_length_le (by rw [HN.out]; exact Nat.le_refl _)] at hA
      have hl : Hid ((behL L cs).length = 32) := Lib.hid (by rw [behL_length]; exact HL.out)
      go_wp2_with (first | (with_reducible refine wpl_lload (.tmp 2) rfl rfl hA.out rfl ?_) | (with_reducible refine wpl_lstore (.tmp 4) (.tmp 26) rfl rfl hR.out rfl hl.out rfl ?_; intro w4 R4 g4 e4))
      refine bodyPost_ret (lret1 rfl _ R4 rfl) rfl ?_
      exact ⟨rfl, hb.out.grown g4 hb.out.size (fun k e => by cases e; omega)⟩
end Go.Proofs.Ytppodbijdhcclaa

