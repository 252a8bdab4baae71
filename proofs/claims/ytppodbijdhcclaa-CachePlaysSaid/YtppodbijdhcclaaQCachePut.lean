/- Put of the cache. No condition. -/
import Derived.Test.YtppodbijdhcclaaQCachePutM
namespace Go.Proofs.Ytppodbijdhcclaa
open Go Go.RowKit Go.Maps
theorem neMap {w : World} {g m N : Nat} {D : DataW Value} {cs : Array Value} {t : TypeId} {fr : Nat × Nat} (h : w.heap[g]? = some (.cells cs t fr)) (hm : w.ownsMap Try.prog 3 chR m N D) : g ≠ m := fun e => by
  obtain ⟨es, clock, hb, _⟩ := hm
  rw [e, hb] at h
  cases h
theorem map_nocell {w : World} {m N : Nat} {D : DataW Value} (hm : w.ownsMap Try.prog 3 chR m N D) (p : Addr) (hp : p.block = m) : w.cell? p = none := by
  obtain ⟨es, clock, hb, _⟩ := hm
  simp [World.cell?, hp, hb]
theorem keepAll {w w' : World} {m N N2 : Nat} {D D2 : DataW Value} (g : w.grownBy w' (some m)) (h : w.ownsMap Try.prog 3 chR m N D) (h2 : w'.ownsMap Try.prog 3 chR m N2 D2) : ∀ p : Addr, p.block < w.heap.size → w'.cell? p = w.cell? p := fun p hp => by
  by_cases e : p.block = m
  · rw [map_nocell h p e, map_nocell h2 p e]
  · exact World.cell?_of_block (g.block p.block hp (by simp only [ne_eq, Option.some.injEq]; exact e))
theorem Chs.keep {w w' : World} {B : Nat} {v : Value} {cs : List CV} (h : Chs w B v cs) (hk : ∀ p : Addr, p.block < B → w'.cell? p = w.cell? p) : Chs w' B v cs := by
  obtain ⟨A, c, h1, h2, h3, h4⟩ := h
  exact ⟨A, c, h1, h2, h3, h4.keep hk⟩
set_option maxRecDepth 100000 in
set_option maxHeartbeats 16000000 in
theorem put_any (q m s N : Nat) (f : Int → Option CV) (D : DataW Value) (S : Nat → Prop) (P : Int → Option CE) (bs : List ByteArray) (th : List Bool) (mo : Int) (v : Value) (cs : List CV) (ls : List (List UInt8)) (w : World)
    (hq : Cc w q m s) (hs : Src w s bs th mo) (hm : w.ownsMap Try.prog 3 chR m N D) (hf : MpD D f) (hp : Tells w S f P) (hS : ∀ b, S b → b ≠ m) (hc : Chs w w.heap.size v cs) (hl : BodL w w.heap.size cs ls) (hz : cs.length ≤ 1000) (hN : N ≤ 1000000) :
    Calls Try.prog 19 #[.pointer (some ⟨q, 0, none⟩), v] w fun e w' =>
      (rightC lzeros cs = false ∧ e = .returned (.int .i64 1) ∧ Below w.heap.size w w') ∨
      (rightC lzeros cs = true ∧ ∃ M, M.length = 32 ∧ (∀ z, lhas M z = liveF f (srcTo th 256) z) ∧
        (((mo < cntL (behL M cs) ∧ cntL M < cntL (behL M cs)) ∧ e = .returned (.int .i64 40) ∧ Below w.heap.size w w') ∨
         (¬ (mo < cntL (behL M cs) ∧ cntL M < cntL (behL M cs)) ∧ e = .returned (.int .i64 0) ∧ w.grownBy w' (some m) ∧ ∃ f2 D2, w'.ownsMap Try.prog 3 chR m (N + cs.length) D2 ∧ MpD D2 f2 ∧ Tells w' (fun b => S b ∨ w.heap.size ≤ b) f2 (putTo P cs ls cs.length)))) := by
  obtain ⟨A, c, rfl, hcc, hcm, _⟩ := id hc
  have Q0 := Lib.hid hq
  have S0 := Lib.hid hs
  have M0 := Lib.hid hm
  have HF := Lib.hid hf
  have HP := Lib.hid hp
  have HS := Lib.hid hS
  have C0 := Lib.hid hc
  have L0 := Lib.hid hl
  have z0 := zeroLive
  obtain ⟨NC, hNC⟩ : ∃ NC, cs.length = NC := ⟨_, rfl⟩
  have HNC := Lib.hid hNC
  have KR := Lib.hid (right_any _ cs w hc hl.bods hz)
  rw [hNC] at hz hcc C0 KR ⊢
  clear hq hs hm hf hp hS hc hl hNC
  have QL : Hid (q < w.heap.size ∧ s < w.heap.size ∧ m < w.heap.size ∧ q ≠ m ∧ s ≠ m) := Lib.hid ⟨Blk.lt Q0.out, S0.out.lt, M0.out.lt, neMap Q0.out M0.out, neMap S0.out.1 M0.out⟩
  obtain ⟨b, hb⟩ : ∃ b, b = rightC lzeros cs := ⟨_, rfl⟩
  rw [← hb] at KR
  have HB := Lib.hid hb
  clear hb
  go_enter Try.func19, Try.ntmps19
  cases b with
  | false =>
    go_wp2_with ((with_reducible refine KR.out.mono ?_); rintro e w1 ⟨rfl, b1⟩; have H1 := Lib.hid b1; clear KR b1)
    go_ret
    exact .inl ⟨HB.out.symm, rfl, H1.out⟩
  | true =>
    go_upto_region 3 with ((with_reducible refine KR.out.mono ?_); rintro e w1 ⟨rfl, b1⟩; have H1 := Lib.hid b1; clear KR b1)
    have KL := Lib.hid (clive_any q m s N f D bs th mo w1 (Blk.after Q0.out H1.out) (S0.out.after H1.out) (M0.out.kept (only_of_below H1.out none) (by simp)) HF.out)
    go_upto_region 4 with (first
      | ((with_reducible refine KL.out.mono ?_); rintro e w2 ⟨M, ML', rfl, HM', b2⟩; have ML := Lib.hid ML'; have HM := Lib.hid HM'; have H2 := Lib.hid (H1.out.trans (b2.mono H1.out.size)); have A2 := Lib.hid (LArr.new w2 lzeros_length); clear KL b2 ML' HM')
      | (with_reducible refine wpl_lstore (.tmp 5) (.tmp 13) rfl rfl A2.out rfl ML.out rfl ?_; intro w3 A3' g3 e3; have A3 := Lib.hid A3'; have H3 := Lib.hid ((H2.out.alloc H2.out.size (.cells (cl lzeros) 53)).grown g3 (Nat.le_trans H2.out.size (by simp)) (fun k e => by cases e; exact H2.out.size)); clear A3' g3 e3 A2))
    obtain ⟨gn, hgn⟩ : ∃ gn, gn = w2.heap.size := ⟨_, rfl⟩
    have GN : Hid (w.heap.size ≤ gn) := Lib.hid (by rw [hgn]; exact H2.out.size)
    rw [← hgn] at A3 ⊢
    clear hgn H2 H1
    have KB := Lib.hid (behind_any M ML.out (.slice A NC c) cs w3 (by obtain ⟨a1, a2, a3, a4, a5, a6⟩ := C0.out.below H3.out; exact ⟨a1, a2, a3, a4, a5, a6.more H3.out.size⟩) (by rw [HNC.out]; exact hz))
    have HL2 : Hid ((behL M cs).length = 32) := Lib.hid (by rw [behL_length]; exact ML.out)
    obtain ⟨M2, hM2⟩ : ∃ M2, M2 = behL M cs := ⟨_, rfl⟩
    rw [← hM2] at KB HL2
    have HM2 := Lib.hid hM2
    clear hM2
    go_upto_region 5 with (first
      | (with_reducible refine wpl_lload (.tmp 5) rfl rfl A3.out rfl ?_)
      | ((with_reducible refine KB.out.mono ?_); rintro e w4 ⟨rfl, b4⟩; have A4 := Lib.hid (A3.out.after b4); have H4 := Lib.hid (H3.out.trans (b4.mono H3.out.size)); have KY4 := Lib.hid (keys_any M2 HL2.out w4); clear KB b4 A3 H3)
      | ((with_reducible refine KY4.out.mono ?_); rintro e w5 ⟨X5, c5, rfl, _, b5⟩; have A5 := Lib.hid (A4.out.after b5); have H5 := Lib.hid (H4.out.trans (b5.mono H4.out.size)); clear KY4 b5 A4 H4))
    have q0 : w5.cell? ⟨q, 0, none⟩ = some (.iface 26 (.pointer (some ⟨s, 0, none⟩))) := Blk.cell (Blk.below Q0.out H5.out QL.out.1) 0
    have ml := meth_limit
    have KM := Lib.hid (limit_any s bs th mo w5 (S0.out.below H5.out QL.out.2.1))
    obtain ⟨n2, hn2⟩ : ∃ n2, n2 = (keysTo M2 256).length := ⟨_, rfl⟩
    rw [← hn2] at ⊢
    have HN2 : Hid (cntL (behL M cs) = n2) := Lib.hid (by rw [hn2, ← HM2.out]; rfl)
    clear hn2 HL2 HM2
    obtain ⟨n1, hn1⟩ : ∃ n1, n1 = (keysTo M 256).length := ⟨_, rfl⟩
    have HN1 : Hid (cntL M = n1) := Lib.hid (by rw [hn1]; rfl)
    have KY : Hid (∀ w', Calls Try.prog 38 #[.agg (cl M)] w' fun e w2 => ∃ X c, e = .returned (.slice X n1 c) ∧ Below w'.heap.size w' w2) := Lib.hid (fun w' => (keys_any M ML.out w').mono (fun e w2 h => by obtain ⟨X, c, h1, _, h2⟩ := h; exact ⟨X, c, by rw [hn1]; exact h1, h2⟩))
    clear hn1
    by_cases hmo : mo < (n2 : Int)
    · have d1 : decide (mo < (n2 : Int)) = true := decide_eq_true hmo
      by_cases hn : n1 < n2
      · have d2 : decide ((n1 : Int) < (n2 : Int)) = true := decide_eq_true (by omega)
        go_wp2_with (first
          | ((with_reducible refine KM.out.mono ?_); rintro e w6 ⟨rfl, b6⟩; have A6 := Lib.hid (A5.out.after b6); have H6 := Lib.hid (H5.out.trans (b6.mono H5.out.size)); have KY6 := Lib.hid (KY.out w6); clear KM b6 A5 H5 ml q0)
          | (with_reducible refine wpl_lload (.tmp 5) rfl rfl A6.out rfl ?_)
          | ((with_reducible refine KY6.out.mono ?_); rintro e w7 ⟨X7, c7, rfl, b7⟩; have H7 := Lib.hid (H6.out.trans (b7.mono H6.out.size)); clear KY6 b7 A6 H6))
        go_ret
        exact .inr ⟨HB.out.symm, M, ML.out, HM.out, .inl ⟨⟨by rw [HN2.out]; exact hmo, by rw [HN1.out, HN2.out]; exact hn⟩, rfl, H7.out⟩⟩
      · have d2 : decide ((n1 : Int) < (n2 : Int)) = false := decide_eq_false (by omega)
        have HNO : Hid (¬ (mo < cntL (behL M cs) ∧ cntL M < cntL (behL M cs))) := Lib.hid (fun h => hn (by rw [← HN1.out, ← HN2.out]; exact h.2))
        go_upto_region 7 with (first
          | ((with_reducible refine KM.out.mono ?_); rintro e w6 ⟨rfl, b6⟩; have A6 := Lib.hid (A5.out.after b6); have H6 := Lib.hid (H5.out.trans (b6.mono H5.out.size)); have KY6 := Lib.hid (KY.out w6); clear KM b6 A5 H5 ml q0)
          | (with_reducible refine wpl_lload (.tmp 5) rfl rfl A6.out rfl ?_)
          | ((with_reducible refine KY6.out.mono ?_); rintro e w7 ⟨X7, c7, rfl, b7⟩; have H7 := Lib.hid (H6.out.trans (b7.mono H6.out.size)); clear KY6 b7 A6 H6))
        clear KY d1 d2 hmo hn HN1 HN2
        obtain ⟨W0, hW0⟩ : ∃ W0, W0 = w7 := ⟨_, rfl⟩
        rw [← hW0] at H7 ⊢
        have HW := H7
        clear H7 hW0
        go_wp2_with fail
        go_loopw [35] (fun i wx => ∃ (k : Nat) (f2 : Int → Option CV) (D2 : DataW Value), k ≤ NC ∧ i = .int .i64 k ∧ Hid (wx.ownsMap Try.prog 3 chR m (N + k) D2) ∧ Hid (MpD D2 f2) ∧ Hid (Tells wx (fun b => S b ∨ w.heap.size ≤ b) f2 (putTo P cs ls k)) ∧ Hid (w.grownBy wx (some m))) (fun i _ => NC - (intOf i).toNat)
        case atStart => exact ⟨0, f, D, Nat.zero_le _, rfl, Lib.hid (M0.out.kept (only_of_below HW.out none) (by simp)), HF, Lib.hid (fun z => ⟨(HP.out z).1, fun x e hx he => (((HP.out z).2 x e hx he).grown (only_of_below HW.out none) (by simp)).more (fun b h => .inl h)⟩), Lib.hid (only_of_below HW.out _)⟩
        case round =>
          clear HW
          rename_i wr
          obtain ⟨k, f2, D2, hk, rfl, hM, hF, hT, hG⟩ := hrel
          by_cases hlt : k < NC
          · obtain ⟨x, hx⟩ : ∃ x, cs[k]? = some x := ⟨_, List.getElem?_eq_getElem (by rw [HNC.out]; exact hlt)⟩
            have KP := keepAll hG.out M0.out hM.out
            obtain ⟨a, rfl, hab, hck⟩ := (C0.out.keep KP).elem hx
            have hby := ((L0.out.2 k x hx).keep KP).more hG.out.size
            have hkey := rightC_key cs lzeros HB.out.symm k x hx
            obtain ⟨xk, xg, xA, xn, xc⟩ := x
            obtain ⟨l, hl⟩ : ∃ l, l = ls.getD k [] := ⟨_, rfl⟩
            rw [← hl] at hby
            have HNX : Hid (putTo P cs ls (k + 1) = putP (putTo P cs ls k) xk xg l) := Lib.hid (by
              show putP (putTo P cs ls k) (cs.getD k _).k (cs.getD k _).g (ls.getD k []) = _
              rw [List.getD_eq_getElem?_getD, hx, ← hl]
              rfl)
            have HLL : Hid (l.length = xn) := Lib.hid (by obtain ⟨_, _, e, _⟩ := hby; simp only [Value.slice.injEq] at e; exact e.2.1.symm)
            have HCK := Lib.hid (show ∀ j u, ([.int .i64 xk, .bool xg, .slice xA xn xc] : List Value)[j]? = some u → wr.cell? ((a.add (k * 3)).add j) = some u from hck)
            have HKY := Lib.hid hkey
            have HBY := Lib.hid hby
            simp only at HKY HBY
            clear hck hby hkey hl hx KP
            have H2 := Lib.hid ((Below.refl wr.heap.size wr).alloc (Nat.le_refl _) (.cells #[.int .i64 xk, .bool xg, .slice xA xn xc] 46))
            have X2 := Lib.hid (Blk.new3c wr (.int .i64 xk) (.bool xg) (.slice xA xn xc) 46)
            go_upto_region 10 with (with_reducible refine wpl_cells (q := a.add (k * 3)) (row := [.int .i64 xk, .bool xg, .slice xA xn xc]) aggC sizeC (.tmp 37) rfl rfl rfl rfl HCK.out ?_)
            have G2 := only_alloc hG.out (.cells #[.int .i64 xk, .bool xg, .slice xA xn xc] 46)
            have Q2 : Blk (wr.alloc (.cells #[.int .i64 xk, .bool xg, .slice xA xn xc] 46)) q 89 [.iface 26 (.pointer (some ⟨s, 0, none⟩)), .map (some m)] := Blk.grown Q0.out G2 (by simp only [ne_eq, Option.some.injEq]; exact QL.out.2.2.2.1)
            have M2 := hM.out.alloc (.cells #[.int .i64 xk, .bool xg, .slice xA xn xc] 46)
            have T2 := hT.out.grown (only_of_below H2.out none) (by simp)
            have PM : Hid (wr.heap.size ≠ m) := Lib.hid (neMap X2.out M2)
            have BY2 := (HBY.out.below H2.out).more H2.out.size
            obtain ⟨W3, hW3⟩ : ∃ W3, W3 = (wr.alloc (.cells #[.int .i64 xk, .bool xg, .slice xA xn xc] 46)).drew := ⟨_, rfl⟩
            have X3 : Hid (Blk W3 wr.heap.size 46 [.int .i64 xk, .bool xg, .slice xA xn xc]) := Lib.hid (by rw [hW3]; exact X2.out)
            have Q3 : Hid (Blk W3 q 89 [.iface 26 (.pointer (some ⟨s, 0, none⟩)), .map (some m)]) := Lib.hid (by rw [hW3]; exact Q2)
            have M3 : Hid (W3.ownsMap Try.prog 3 chR m (N + k) D2) := Lib.hid (by rw [hW3]; exact M2)
            have T3 : Hid (Tells W3 (fun b => S b ∨ w.heap.size ≤ b) f2 (putTo P cs ls k)) := Lib.hid (by rw [hW3]; exact T2)
            have G3 : Hid (w.grownBy W3 (some m)) := Lib.hid (by rw [hW3]; exact ⟨G2.os, G2.tape, G2.output, G2.size, G2.block⟩)
            have BY3 : Hid (Bytes W3 W3.heap.size (.slice xA xn xc) l) := Lib.hid (by rw [hW3]; exact BY2)
            have KO := Lib.hid (own_any xk xg (.slice xA xn xc) l W3 BY3.out (by rw [HLL.out]; have := HKY.out.2; omega))
            obtain ⟨p, hp⟩ : ∃ p, p = wr.heap.size := ⟨_, rfl⟩
            rw [← hp] at X3 PM ⊢
            have SS : Blk W3 q 89 [.iface 26 (.pointer (some ⟨s, 0, none⟩)), .map (some m)] ∧ Blk W3 p 46 [.int .i64 xk, .bool xg, .slice xA xn xc] := ⟨Q3.out, X3.out⟩
            clear G2 Q2 M2 T2 X2 H2 BY2 BY3 hM hT hG hp HBY HCK
            refine wp_region_held_drew (S := (fun w2 => Blk w2 q 89 [.iface 26 (.pointer (some ⟨s, 0, none⟩)), .map (some m)] ∧ Blk w2 p 46 [.int .i64 xk, .bool xg, .slice xA xn xc])) (by kernel_rfl) (by rw [← hW3]; exact SS) (fun _ => ?_)
            rw [← hW3]
            clear hW3
            refine wpAnyH_take (i := 0) (v := .pointer (some ⟨q, 0, none⟩)) rfl (by kernel_rfl) (by kernel_rfl) (by kernel_rfl) (fun _ _ _ h => h) (Or.inl ⟨by kernel_rfl, fun w _ => by go_simp⟩) SS ?_
            simp only [Act.put, List.getElem_toArray, List.getElem_cons_zero, List.setIfInBounds_toArray, List.set_cons_zero, List.set_cons_succ]
            refine wpAnyH_take (i := 1) (v := .pointer (some ⟨q, 0, none⟩)) rfl (by kernel_rfl) (by kernel_rfl) (by kernel_rfl) (fun _ _ _ h => h) (Or.inl ⟨by kernel_rfl, fun w _ => by go_simp⟩) SS ?_
            simp only [Act.put, List.getElem_toArray, List.getElem_cons_zero, List.getElem_cons_succ, List.setIfInBounds_toArray, List.set_cons_zero, List.set_cons_succ]
            refine wpAnyH_take (i := 2) (v := .pointer (some ⟨q, 1, none⟩)) rfl (by kernel_rfl) (by kernel_rfl) (by kernel_rfl) (fun _ _ _ h => h) (Or.inl ⟨by kernel_rfl, fun w _ => by go_simp⟩) SS ?_
            simp only [Act.put, List.getElem_toArray, List.getElem_cons_zero, List.getElem_cons_succ, List.setIfInBounds_toArray, List.set_cons_zero, List.set_cons_succ]
            refine wpAnyH_take (i := 3) (v := .map (some m)) rfl (by kernel_rfl) (by kernel_rfl) (by kernel_rfl) (fun _ _ _ h => h) (yields_one (ty := 87) (fun w => by kernel_rfl) (.tmp 41) (by kernel_rfl) (by kernel_rfl) (by kernel_rfl) (fun w2 h => h.1.cell 1)) SS ?_
            simp only [Act.put, List.getElem_toArray, List.getElem_cons_zero, List.getElem_cons_succ, List.setIfInBounds_toArray, List.set_cons_zero, List.set_cons_succ]
            refine wpAnyH_take (i := 4) (v := .pointer (some ⟨p, 0, none⟩)) rfl (by kernel_rfl) (by kernel_rfl) (by kernel_rfl) (fun _ _ _ h => h) (Or.inl ⟨by kernel_rfl, fun w _ => by go_simp⟩) SS ?_
            simp only [Act.put, List.getElem_toArray, List.getElem_cons_zero, List.getElem_cons_succ, List.setIfInBounds_toArray, List.set_cons_zero, List.set_cons_succ]
            refine wpAnyH_take (i := 5) (v := .int .i64 xk) rfl (by kernel_rfl) (by kernel_rfl) (by kernel_rfl) (fun _ _ _ h => h) (yields_one (ty := 3) (fun w => by kernel_rfl) (.tmp 43) (by kernel_rfl) (by kernel_rfl) (by kernel_rfl) (fun w2 h => h.2.cell 0)) SS ?_
            simp only [Act.put, List.getElem_toArray, List.getElem_cons_zero, List.getElem_cons_succ, List.setIfInBounds_toArray, List.set_cons_zero, List.set_cons_succ]
            refine wpAnyH_take (i := 6) (v := .agg #[.int .i64 xk, .bool xg, .slice xA xn xc]) rfl (by kernel_rfl) (by kernel_rfl) (by kernel_rfl) (fun _ _ _ h => h) (yields_seg aggC sizeC (.tmp 8) (by kernel_rfl) (by kernel_rfl) (by kernel_rfl) (g := p) (i := 0) (fun w2 h => h.2) rfl rfl) SS ?_
            simp only [Act.put, List.getElem_toArray, List.setIfInBounds_toArray]
            refine wpAnyH_ready (rs := [7]) (by kernel_rfl) (by simp) (AllReadyH.cons rfl (fun K hK => ?_) AllReadyH.nil)
            go_simp
            ((with_reducible refine KO.out.mono ?_); rintro e w5 ⟨A5, c5, n5, hn5, rfl, O5, b5⟩)
            have S5 := And.intro (SS.1.after b5) (SS.2.after b5)
            have M5 := Lib.hid (M3.out.kept (only_of_below b5 none) (by simp))
            have T5 := Lib.hid ((T3.out.grown (only_of_below b5 none) (by simp)).put ⟨xk, xg, A5, n5, c5⟩ l (Own.toS O5 (fun b h => .inr (Nat.le_trans G3.out.size h)) (by have := HLL.out; have := HKY.out.2; split <;> simp; omega)))
            have G5 := Lib.hid (only_trans G3.out (only_of_below b5 (some m)))
            refine hK _ _ S5 (fun _ => ?_)
            clear hK K b5 O5
            refine wpAnyH_ready (rs := [8]) (by kernel_rfl) (by simp) (AllReadyH.cons rfl (fun K hK => ?_) AllReadyH.nil)
            refine step_cput (by kernel_rfl) (.tmp 42) (.tmp 44) (.tmp 46) (by kernel_rfl) (m := m) (by kernel_rfl) M5.out (by simp only [maxLen]; omega) xk (by kernel_rfl) ⟨xk, xg, A5, n5, c5⟩ (by kernel_rfl) (wfC HKY.out.1) ?_
            intro w6 M6 g6
            have S6 := And.intro (S5.1.grown g6 (by simp only [ne_eq, Option.some.injEq]; exact QL.out.2.2.2.1)) (S5.2.grown g6 (by simp only [ne_eq, Option.some.injEq]; exact PM.out))
            have HM6 := Lib.hid M6
            have F6 := Lib.hid (MpD.put hF.out M5.out.isMap ⟨xk, xg, A5, n5, c5⟩ HKY.out.1)
            have T6 := Lib.hid (T5.out.grown g6 (fun b h e => by
              cases e
              rcases h with h | h
              · exact HS.out _ h rfl
              · have := QL.out.2.2.1; omega))
            have G6 := Lib.hid (only_trans G5.out g6)
            refine hK _ _ S6 (fun _ => ?_)
            clear hK K M6 g6
            refine wpAnyH_done (by kernel_rfl) ?_ _
            go_simp
            go_wp2_with fail
            exact ⟨⟨k + 1, _, _, by omega, by go_num, HM6, F6, Lib.hid (by rw [HNX.out]; exact T6.out), G6⟩, by simp [intOf]; omega⟩
          · obtain rfl : k = NC := by omega
            go_wp2_with fail
            go_ret
            exact .inr ⟨HB.out.symm, M, ML.out, HM.out, .inr ⟨HNO.out, rfl, hG.out, f2, D2, hM.out, hF.out, hT.out⟩⟩
    · have d1 : decide (mo < (n2 : Int)) = false := decide_eq_false hmo
      have HNO : Hid (¬ (mo < cntL (behL M cs) ∧ cntL M < cntL (behL M cs))) := Lib.hid (fun h => hmo (by rw [← HN2.out]; exact h.1))
      go_upto_region 7 with ((with_reducible refine KM.out.mono ?_); rintro e w6 ⟨rfl, b6⟩; have H6 := Lib.hid (H5.out.trans (b6.mono H5.out.size)); clear KM b6 A5 H5 ml q0)
      clear KY d1 hmo HN1 HN2
      obtain ⟨W0, hW0⟩ : ∃ W0, W0 = w6 := ⟨_, rfl⟩
      rw [← hW0] at H6 ⊢
      have HW := H6
      clear H6 hW0
      go_wp2_with fail
      go_loopw [35] (fun i wx => ∃ (k : Nat) (f2 : Int → Option CV) (D2 : DataW Value), k ≤ NC ∧ i = .int .i64 k ∧ Hid (wx.ownsMap Try.prog 3 chR m (N + k) D2) ∧ Hid (MpD D2 f2) ∧ Hid (Tells wx (fun b => S b ∨ w.heap.size ≤ b) f2 (putTo P cs ls k)) ∧ Hid (w.grownBy wx (some m))) (fun i _ => NC - (intOf i).toNat)
      case atStart => exact ⟨0, f, D, Nat.zero_le _, rfl, Lib.hid (M0.out.kept (only_of_below HW.out none) (by simp)), HF, Lib.hid (fun z => ⟨(HP.out z).1, fun x e hx he => (((HP.out z).2 x e hx he).grown (only_of_below HW.out none) (by simp)).more (fun b h => .inl h)⟩), Lib.hid (only_of_below HW.out _)⟩
      case round =>
        clear HW
        rename_i wr
        obtain ⟨k, f2, D2, hk, rfl, hM, hF, hT, hG⟩ := hrel
        by_cases hlt : k < NC
        · obtain ⟨x, hx⟩ : ∃ x, cs[k]? = some x := ⟨_, List.getElem?_eq_getElem (by rw [HNC.out]; exact hlt)⟩
          have KP := keepAll hG.out M0.out hM.out
          obtain ⟨a, rfl, hab, hck⟩ := (C0.out.keep KP).elem hx
          have hby := ((L0.out.2 k x hx).keep KP).more hG.out.size
          have hkey := rightC_key cs lzeros HB.out.symm k x hx
          obtain ⟨xk, xg, xA, xn, xc⟩ := x
          obtain ⟨l, hl⟩ : ∃ l, l = ls.getD k [] := ⟨_, rfl⟩
          rw [← hl] at hby
          have HNX : Hid (putTo P cs ls (k + 1) = putP (putTo P cs ls k) xk xg l) := Lib.hid (by
            show putP (putTo P cs ls k) (cs.getD k _).k (cs.getD k _).g (ls.getD k []) = _
            rw [List.getD_eq_getElem?_getD, hx, ← hl]
            rfl)
          have HLL : Hid (l.length = xn) := Lib.hid (by obtain ⟨_, _, e, _⟩ := hby; simp only [Value.slice.injEq] at e; exact e.2.1.symm)
          have HCK := Lib.hid (show ∀ j u, ([.int .i64 xk, .bool xg, .slice xA xn xc] : List Value)[j]? = some u → wr.cell? ((a.add (k * 3)).add j) = some u from hck)
          have HKY := Lib.hid hkey
          have HBY := Lib.hid hby
          simp only at HKY HBY
          clear hck hby hkey hl hx KP
          have H2 := Lib.hid ((Below.refl wr.heap.size wr).alloc (Nat.le_refl _) (.cells #[.int .i64 xk, .bool xg, .slice xA xn xc] 46))
          have X2 := Lib.hid (Blk.new3c wr (.int .i64 xk) (.bool xg) (.slice xA xn xc) 46)
          go_upto_region 10 with (with_reducible refine wpl_cells (q := a.add (k * 3)) (row := [.int .i64 xk, .bool xg, .slice xA xn xc]) aggC sizeC (.tmp 37) rfl rfl rfl rfl HCK.out ?_)
          have G2 := only_alloc hG.out (.cells #[.int .i64 xk, .bool xg, .slice xA xn xc] 46)
          have Q2 : Blk (wr.alloc (.cells #[.int .i64 xk, .bool xg, .slice xA xn xc] 46)) q 89 [.iface 26 (.pointer (some ⟨s, 0, none⟩)), .map (some m)] := Blk.grown Q0.out G2 (by simp only [ne_eq, Option.some.injEq]; exact QL.out.2.2.2.1)
          have M2 := hM.out.alloc (.cells #[.int .i64 xk, .bool xg, .slice xA xn xc] 46)
          have T2 := hT.out.grown (only_of_below H2.out none) (by simp)
          have PM : Hid (wr.heap.size ≠ m) := Lib.hid (neMap X2.out M2)
          have BY2 := (HBY.out.below H2.out).more H2.out.size
          obtain ⟨W3, hW3⟩ : ∃ W3, W3 = (wr.alloc (.cells #[.int .i64 xk, .bool xg, .slice xA xn xc] 46)).drew := ⟨_, rfl⟩
          have X3 : Hid (Blk W3 wr.heap.size 46 [.int .i64 xk, .bool xg, .slice xA xn xc]) := Lib.hid (by rw [hW3]; exact X2.out)
          have Q3 : Hid (Blk W3 q 89 [.iface 26 (.pointer (some ⟨s, 0, none⟩)), .map (some m)]) := Lib.hid (by rw [hW3]; exact Q2)
          have M3 : Hid (W3.ownsMap Try.prog 3 chR m (N + k) D2) := Lib.hid (by rw [hW3]; exact M2)
          have T3 : Hid (Tells W3 (fun b => S b ∨ w.heap.size ≤ b) f2 (putTo P cs ls k)) := Lib.hid (by rw [hW3]; exact T2)
          have G3 : Hid (w.grownBy W3 (some m)) := Lib.hid (by rw [hW3]; exact ⟨G2.os, G2.tape, G2.output, G2.size, G2.block⟩)
          have BY3 : Hid (Bytes W3 W3.heap.size (.slice xA xn xc) l) := Lib.hid (by rw [hW3]; exact BY2)
          have KO := Lib.hid (own_any xk xg (.slice xA xn xc) l W3 BY3.out (by rw [HLL.out]; have := HKY.out.2; omega))
          obtain ⟨p, hp⟩ : ∃ p, p = wr.heap.size := ⟨_, rfl⟩
          rw [← hp] at X3 PM ⊢
          have SS : Blk W3 q 89 [.iface 26 (.pointer (some ⟨s, 0, none⟩)), .map (some m)] ∧ Blk W3 p 46 [.int .i64 xk, .bool xg, .slice xA xn xc] := ⟨Q3.out, X3.out⟩
          clear G2 Q2 M2 T2 X2 H2 BY2 BY3 hM hT hG hp HBY HCK
          refine wp_region_held_drew (S := (fun w2 => Blk w2 q 89 [.iface 26 (.pointer (some ⟨s, 0, none⟩)), .map (some m)] ∧ Blk w2 p 46 [.int .i64 xk, .bool xg, .slice xA xn xc])) (by kernel_rfl) (by rw [← hW3]; exact SS) (fun _ => ?_)
          rw [← hW3]
          clear hW3
          refine wpAnyH_take (i := 0) (v := .pointer (some ⟨q, 0, none⟩)) rfl (by kernel_rfl) (by kernel_rfl) (by kernel_rfl) (fun _ _ _ h => h) (Or.inl ⟨by kernel_rfl, fun w _ => by go_simp⟩) SS ?_
          simp only [Act.put, List.getElem_toArray, List.getElem_cons_zero, List.setIfInBounds_toArray, List.set_cons_zero, List.set_cons_succ]
          refine wpAnyH_take (i := 1) (v := .pointer (some ⟨q, 0, none⟩)) rfl (by kernel_rfl) (by kernel_rfl) (by kernel_rfl) (fun _ _ _ h => h) (Or.inl ⟨by kernel_rfl, fun w _ => by go_simp⟩) SS ?_
          simp only [Act.put, List.getElem_toArray, List.getElem_cons_zero, List.getElem_cons_succ, List.setIfInBounds_toArray, List.set_cons_zero, List.set_cons_succ]
          refine wpAnyH_take (i := 2) (v := .pointer (some ⟨q, 1, none⟩)) rfl (by kernel_rfl) (by kernel_rfl) (by kernel_rfl) (fun _ _ _ h => h) (Or.inl ⟨by kernel_rfl, fun w _ => by go_simp⟩) SS ?_
          simp only [Act.put, List.getElem_toArray, List.getElem_cons_zero, List.getElem_cons_succ, List.setIfInBounds_toArray, List.set_cons_zero, List.set_cons_succ]
          refine wpAnyH_take (i := 3) (v := .map (some m)) rfl (by kernel_rfl) (by kernel_rfl) (by kernel_rfl) (fun _ _ _ h => h) (yields_one (ty := 87) (fun w => by kernel_rfl) (.tmp 41) (by kernel_rfl) (by kernel_rfl) (by kernel_rfl) (fun w2 h => h.1.cell 1)) SS ?_
          simp only [Act.put, List.getElem_toArray, List.getElem_cons_zero, List.getElem_cons_succ, List.setIfInBounds_toArray, List.set_cons_zero, List.set_cons_succ]
          refine wpAnyH_take (i := 4) (v := .pointer (some ⟨p, 0, none⟩)) rfl (by kernel_rfl) (by kernel_rfl) (by kernel_rfl) (fun _ _ _ h => h) (Or.inl ⟨by kernel_rfl, fun w _ => by go_simp⟩) SS ?_
          simp only [Act.put, List.getElem_toArray, List.getElem_cons_zero, List.getElem_cons_succ, List.setIfInBounds_toArray, List.set_cons_zero, List.set_cons_succ]
          refine wpAnyH_take (i := 5) (v := .int .i64 xk) rfl (by kernel_rfl) (by kernel_rfl) (by kernel_rfl) (fun _ _ _ h => h) (yields_one (ty := 3) (fun w => by kernel_rfl) (.tmp 43) (by kernel_rfl) (by kernel_rfl) (by kernel_rfl) (fun w2 h => h.2.cell 0)) SS ?_
          simp only [Act.put, List.getElem_toArray, List.getElem_cons_zero, List.getElem_cons_succ, List.setIfInBounds_toArray, List.set_cons_zero, List.set_cons_succ]
          refine wpAnyH_take (i := 6) (v := .agg #[.int .i64 xk, .bool xg, .slice xA xn xc]) rfl (by kernel_rfl) (by kernel_rfl) (by kernel_rfl) (fun _ _ _ h => h) (yields_seg aggC sizeC (.tmp 8) (by kernel_rfl) (by kernel_rfl) (by kernel_rfl) (g := p) (i := 0) (fun w2 h => h.2) rfl rfl) SS ?_
          simp only [Act.put, List.getElem_toArray, List.setIfInBounds_toArray]
          refine wpAnyH_ready (rs := [7]) (by kernel_rfl) (by simp) (AllReadyH.cons rfl (fun K hK => ?_) AllReadyH.nil)
          go_simp
          ((with_reducible refine KO.out.mono ?_); rintro e w5 ⟨A5, c5, n5, hn5, rfl, O5, b5⟩)
          have S5 := And.intro (SS.1.after b5) (SS.2.after b5)
          have M5 := Lib.hid (M3.out.kept (only_of_below b5 none) (by simp))
          have T5 := Lib.hid ((T3.out.grown (only_of_below b5 none) (by simp)).put ⟨xk, xg, A5, n5, c5⟩ l (Own.toS O5 (fun b h => .inr (Nat.le_trans G3.out.size h)) (by have := HLL.out; have := HKY.out.2; split <;> simp; omega)))
          have G5 := Lib.hid (only_trans G3.out (only_of_below b5 (some m)))
          refine hK _ _ S5 (fun _ => ?_)
          clear hK K b5 O5
          refine wpAnyH_ready (rs := [8]) (by kernel_rfl) (by simp) (AllReadyH.cons rfl (fun K hK => ?_) AllReadyH.nil)
          refine step_cput (by kernel_rfl) (.tmp 42) (.tmp 44) (.tmp 46) (by kernel_rfl) (m := m) (by kernel_rfl) M5.out (by simp only [maxLen]; omega) xk (by kernel_rfl) ⟨xk, xg, A5, n5, c5⟩ (by kernel_rfl) (wfC HKY.out.1) ?_
          intro w6 M6 g6
          have S6 := And.intro (S5.1.grown g6 (by simp only [ne_eq, Option.some.injEq]; exact QL.out.2.2.2.1)) (S5.2.grown g6 (by simp only [ne_eq, Option.some.injEq]; exact PM.out))
          have HM6 := Lib.hid M6
          have F6 := Lib.hid (MpD.put hF.out M5.out.isMap ⟨xk, xg, A5, n5, c5⟩ HKY.out.1)
          have T6 := Lib.hid (T5.out.grown g6 (fun b h e => by
            cases e
            rcases h with h | h
            · exact HS.out _ h rfl
            · have := QL.out.2.2.1; omega))
          have G6 := Lib.hid (only_trans G5.out g6)
          refine hK _ _ S6 (fun _ => ?_)
          clear hK K M6 g6
          refine wpAnyH_done (by kernel_rfl) ?_ _
          go_simp
          go_wp2_with fail
          exact ⟨⟨k + 1, _, _, by omega, by go_num, HM6, F6, Lib.hid (by rw [HNX.out]; exact T6.out), G6⟩, by simp [intOf]; omega⟩
        · obtain rfl : k = NC := by omega
          go_wp2_with fail
          go_ret
          exact .inr ⟨HB.out.symm, M, ML.out, HM.out, .inr ⟨HNO.out, rfl, hG.out, f2, D2, hM.out, hF.out, hT.out⟩⟩
end Go.Proofs.Ytppodbijdhcclaa

