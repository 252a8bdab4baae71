/- Changes of a cache, in full. No condition. -/
import Derived.Test.YtppodbijdhcclaaQCacheNode
import Derived.Test.YtppodbijdhcclaaQChsMake
import Derived.Deep.DeepCutAuto
namespace Go.Proofs.Ytppodbijdhcclaa
open Go Go.RowKit Go.Maps
/-- the changes that count, of the keys below k -/
def chgTo (th : List Bool) (P : Int → Option CE) : Nat → List (Int × CE)
  | 0 => []
  | k + 1 => chgTo th P k ++ match P (k : Int) with
    | some e => if (!e.gone || th.getD k false) = true then [((k : Int), e)] else []
    | none => []
def chKg (x : Int × CE) : Int × Bool := (x.1, x.2.gone)
def chBody (x : Int × CE) : List UInt8 := if x.2.gone then [] else x.2.body
theorem chgTo_len (th : List Bool) (P : Int → Option CE) : ∀ k, (chgTo th P k).length ≤ k
  | 0 => Nat.le_refl _
  | k + 1 => by
    have h := chgTo_len th P k
    have h2 : (match P (k : Int) with
      | some e => if (!e.gone || th.getD k false) = true then [((k : Int), e)] else []
      | none => ([] : List (Int × CE))).length ≤ 1 := by
      cases P (k : Int) with
      | none => simp
      | some e => dsimp only; split <;> simp
    unfold chgTo
    rw [List.length_append]
    omega
theorem chgTo_yes {th : List Bool} {P : Int → Option CE} {k : Nat} {e : CE} (h : P (k : Int) = some e) (hc : (!e.gone || th.getD k false) = true) : chgTo th P (k + 1) = chgTo th P k ++ [((k : Int), e)] := by
  show _ ++ _ = _
  rw [h]
  dsimp only
  rw [if_pos hc]
theorem chgTo_no {th : List Bool} {P : Int → Option CE} {k : Nat} (h : ∀ e, P (k : Int) = some e → (!e.gone || th.getD k false) = false) : chgTo th P (k + 1) = chgTo th P k := by
  show _ ++ _ = _
  cases hp : P (k : Int) with
  | none => simp
  | some e =>
    dsimp only
    rw [if_neg (by rw [h e hp]; simp), List.append_nil]
/-- what Changes gives, the bodies such as may be written -/
def ChgF (w : World) (L : List (Int × CE)) (e : Ending) (w' : World) : Prop := ∃ v cs, e = .returned v ∧ ChOwn w' w.heap.size v cs (L.map chBody) ∧ ChFree w' w.heap.size v cs ∧ cs.map kg = L.map chKg ∧ Below w.heap.size w w'
/-- what Changes gives -/
def ChgC (w : World) (L : List (Int × CE)) (e : Ending) (w' : World) : Prop := ∃ v cs, e = .returned v ∧ ChOwn w' w.heap.size v cs (L.map chBody) ∧ cs.map kg = L.map chKg ∧ Below w.heap.size w w'
set_option maxRecDepth 100000 in
set_option maxHeartbeats 16000000 in
theorem changes_free (i : CI) (N : Nat) (P : Int → Option CE) (S : Nat → Prop) (w : World) (h : CAt w i N P S) (hPb : ∀ z e, P z = some e → e.body.length ≤ 100000) :
    Calls Try.prog 24 #[.pointer (some ⟨i.q, 0, none⟩)] w fun e w' => ChgF w (chgTo i.th P 256) e w' := by
  obtain ⟨a1, a2, a3, N0, D, f, a4, a5, a6, a7⟩ := id h
  obtain ⟨q, m, s, bs, th, mo⟩ := i
  simp only at a1 a2 a3 a5 ⊢
  have z0 := zeroLive
  have Q0 := Lib.hid (show Blk w q 89 [.iface 26 (.pointer (some ⟨s, 0, none⟩)), .map (some m)] from a1)
  have M0 := Lib.hid a5
  have HF := Lib.hid a6
  have HT := Lib.hid a7
  have HS3 := Lib.hid a3
  have HPB := Lib.hid hPb
  have KL := Lib.hid (nlive_any s bs th mo w a2)
  obtain ⟨L0, hL0⟩ : ∃ L0, L0 = srcTo th 256 := ⟨_, rfl⟩
  have HL0 : Hid (L0.length = 32) := Lib.hid (by rw [hL0]; exact srcTo_length th 256)
  have HLH : Hid (∀ k : Nat, k < 256 → lhas L0 (k : Int) = th.getD k false) := Lib.hid (fun k hk => by
    rw [hL0, lhas_srcTo th 256 (Nat.le_refl _), decide_eq_true (by omega), Bool.true_and, Int.toNat_natCast])
  rw [← hL0] at KL
  have q0 := Blk.cell a1 0
  simp only [List.getElem?_cons_zero] at q0
  have ml := meth_live
  clear h a1 a2 a3 a4 a5 a6 a7 hL0 hPb
  go_enter Try.func24, Try.ntmps24
  go_upto_region 3 with (first
    | ((with_reducible refine KL.out.mono ?_); rintro e w1 ⟨rfl, b1⟩; have H1 := Lib.hid b1; have A1 := Lib.hid (LArr.new w1 lzeros_length); clear KL b1 ml q0)
    | (with_reducible refine wpl_lstore (.tmp 4) (.tmp 12) rfl rfl A1.out rfl HL0.out rfl ?_; intro w3 A3' g3 e3; have A3 := Lib.hid A3'; have H3 := Lib.hid ((H1.out.alloc H1.out.size (.cells (cl lzeros) 53)).grown g3 (Nat.le_trans H1.out.size (by simp)) (fun k e => by cases e; exact H1.out.size)); clear A3' g3 e3 A1))
  obtain ⟨gv, hgv⟩ : ∃ gv, gv = w1.heap.size := ⟨_, rfl⟩
  have GV : Hid (w.heap.size ≤ gv ∧ gv < w3.heap.size) := Lib.hid ⟨by rw [hgv]; exact H1.out.size, by rw [hgv]; exact A3.out.lt⟩
  rw [← hgv] at A3 ⊢
  clear hgv H1
  go_wp2_with fail
  go_loopw [3, 13] (fun l i wr => ∃ (k n : Nat) (A : Option Addr) (c : Nat) (cs : List CV), k ≤ 256 ∧ n ≤ k ∧ l = .slice A n c ∧ i = .int .i64 k ∧ Hid (ChOwn wr (gv + 1) (.slice A n c) cs ((chgTo th P k).map chBody)) ∧ Hid (ChFree wr (gv + 1) (.slice A n c) cs) ∧ Hid (cs.map kg = (chgTo th P k).map chKg ∧ cs.length = n) ∧ Hid (LArr wr gv L0) ∧ Hid (Below w.heap.size w wr)) (fun _ i _ => 256 - (intOf i).toNat)
  case atStart => exact ⟨0, 0, none, 0, [], Nat.zero_le _, Nat.le_refl _, rfl, rfl, Lib.hid (ChOwn.nil _ _), Lib.hid ChFree.nil, Lib.hid ⟨rfl, rfl⟩, A3, H3⟩
  case round =>
    clear A3 H3
    rename_i wr
    obtain ⟨k, n, A, c, cs, hk, hnk, rfl, rfl, hO, hFr, hM, hA, hb⟩ := hrel
    have q1 : wr.cell? ⟨q, 1, none⟩ = some (.map (some m)) := (Q0.out.below hb.out Q0.out.lt).cell 1
    have MR := M0.out.kept (only_of_below hb.out none) (by simp)
    by_cases hlt : k < 256
    · have d1 : decide ((k : Int) < 256) = true := by simp; omega
      cases hfk : f (k : Int) with
      | none =>
        have hrun := look_none MR HF.out (wfC ⟨by omega, by omega⟩) hfk
        have HN1 : Hid (chgTo th P (k + 1) = chgTo th P k) := Lib.hid (chgTo_no (fun e he => by
          have h1 := (HT.out (k : Int)).1
          rw [hfk, he] at h1
          cases h1))
        have B2 := Lib.hid ((Below.refl wr.heap.size wr).alloc (Nat.le_refl _) (.cells #[.int .i64 0, .bool false, .slice none 0 0] 46))
        clear MR hfk
        go_wp2_with fail
        exact ⟨⟨k + 1, n, A, c, cs, by omega, by omega, rfl, by go_num, Lib.hid (by rw [HN1.out]; exact hO.out.below B2.out), Lib.hid (hFr.out.below B2.out), Lib.hid (by rw [HN1.out]; exact hM.out), Lib.hid (hA.out.alloc _), Lib.hid (hb.out.alloc hb.out.size _)⟩, by simp [intOf]; omega⟩
      | some x =>
        have hrun := look_some MR HF.out hfk
        obtain ⟨e, he⟩ : ∃ e, P (k : Int) = some e := by
          have h1 := (HT.out (k : Int)).1
          rw [hfk] at h1
          cases hp : P (k : Int) with
          | none => rw [hp] at h1; cases h1
          | some e => exact ⟨e, rfl⟩
        have hge : x.g = e.gone := by
          have h1 := (HT.out (k : Int)).1
          rw [hfk, he] at h1
          simpa using h1
        have hkey := ((HF.out (k : Int)).2 x hfk).1.1
        have hbyS := (HT.out (k : Int)).2 x e hfk he
        have hby : Bytes wr wr.heap.size (.slice x.A x.n x.c) e.body := ((hbyS.grown (only_of_below hb.out none) (by simp)).bytes (fun b hS => Nat.lt_of_lt_of_le (HS3.out b hS).2 hb.out.size))
        obtain ⟨xk, xg, xA, xn, xc⟩ := x
        simp only at hge hkey hby hrun
        subst hkey
        have HE := Lib.hid he
        have HGE := Lib.hid hge
        have HLB := Lib.hid (HPB.out _ _ he)
        have HLL : Hid (e.body.length = xn) := Lib.hid (by obtain ⟨_, _, e1, _⟩ := hby; simp only [Value.slice.injEq] at e1; exact e1.2.1.symm)
        have B2 := Lib.hid ((Below.refl wr.heap.size wr).alloc (Nat.le_refl _) (.cells #[.int .i64 (k : Int), .bool xg, .slice xA xn xc] 46))
        have A2 := Lib.hid (hA.out.alloc (.cells #[.int .i64 (k : Int), .bool xg, .slice xA xn xc] 46))
        have H2 := Lib.hid (hb.out.alloc hb.out.size (.cells #[.int .i64 (k : Int), .bool xg, .slice xA xn xc] 46))
        have O2 := Lib.hid (hO.out.below B2.out)
        have F2 := Lib.hid (hFr.out.below B2.out)
        have X2 := Lib.hid (Blk.new3c wr (.int .i64 (k : Int)) (.bool xg) (.slice xA xn xc) 46)
        have BY2 := Lib.hid ((hby.below B2.out).more B2.out.size)
        have x1 := X2.out.cell 1
        simp only [List.getElem?_cons_succ, List.getElem?_cons_zero] at x1
        have KH := Lib.hid (has_any L0 HL0.out (k : Int) (wr.alloc (.cells #[.int .i64 (k : Int), .bool xg, .slice xA xn xc] 46)))
        rw [HLH.out k hlt] at KH
        obtain ⟨tb, htb⟩ : ∃ tb, tb = th.getD k false := ⟨_, rfl⟩
        rw [← htb] at KH
        have HTB := Lib.hid htb
        clear MR hfk he hge hbyS hby htb hA hb hO
        cases xg with
        | true =>
          cases tb with
          | true =>
            have HN1 := Lib.hid (chgTo_yes (th := th) HE.out (by rw [← HTB.out]; simp))
            go_upto_region 8 with (first
              | (with_reducible refine wpl_lload (.tmp 4) rfl rfl A2.out rfl ?_)
              | ((with_reducible refine KH.out.mono ?_); rintro e4 w4 ⟨rfl, b4⟩; have A4 := Lib.hid (A2.out.after b4); have H4 := Lib.hid (H2.out.trans (b4.mono H2.out.size)); have O4 := Lib.hid (O2.out.below b4); have F4 := Lib.hid (F2.out.below b4); have X4 := Lib.hid (X2.out.after b4); have BY4 := Lib.hid ((BY2.out.below b4).more b4.size); clear KH b4 A2 H2 O2 X2 BY2 x1 B2))
            obtain ⟨p, hp⟩ : ∃ p, p = wr.heap.size := ⟨_, rfl⟩
            have HP : Hid (gv + 1 ≤ w4.heap.size) := Lib.hid (A4.out.lt)
            rw [← hp] at X4 ⊢
            clear hp
            have KO := Lib.hid (own_any (k : Int) true (.slice xA xn xc) e.body w4 BY4.out HLB.out)
            simp only [if_true] at KO
            have HBD : Hid (chBody ((k : Int), e) = []) := Lib.hid (by unfold chBody; rw [← HGE.out]; rfl)
            have HBL : Hid (([] : List UInt8).length ≤ 100000) := Lib.hid (Nat.zero_le _)
            go_wp2_with (first
              | (with_reducible refine wpl_seg_load aggC sizeC (.tmp 6) rfl rfl X4.out 0 [.int .i64 (k : Int), .bool true, .slice xA xn xc] rfl rfl rfl ?_)
              | ((with_reducible refine KO.out.mono ?_); rintro e5 w5 ⟨A5, c5, n5, hn5, rfl, O5, b5⟩; have C5 := Lib.hid (O4.out.below b5); have F5 := Lib.hid (F4.out.below b5); have X5F : Hid (CFree1 w5 (gv + 1) (.slice A n c) A5) := Lib.hid (O5.free1 HP.out (fun b e => (World.ownsRow.lt O4.out.row b e).2)); have H5 := Lib.hid (H4.out.trans (b5.mono H4.out.size)); have N5 : Hid (BytesS w5 (fun b => gv + 1 ≤ b ∧ b < w5.heap.size ∧ (Value.slice A n c).ownBlock ≠ some b) (.slice A5 n5 c5) []) := Lib.hid ((bytesS_cut (Own.toS (S := fun b => w4.heap.size ≤ b) O5 (fun b h => h) HBL.out)).more (fun b h => ⟨by have h1 : w4.heap.size ≤ b := h.1; have := HP.out; omega, h.2, fun e => by have h1 : w4.heap.size ≤ b := h.1; have h2 : b < w4.heap.size := (World.ownsRow.lt O4.out.row b e).2; omega⟩)); have A5' := Lib.hid (A4.out.after b5); have B6 := Lib.hid ((Below.refl w5.heap.size w5).alloc (Nat.le_refl _) (.cells #[.int .i64 (k : Int), .bool true, .slice A5 n5 c5] 46)); have HDS : Hid (∀ y ∈ cs, CDis y ⟨(k : Int), true, A5, n5, c5⟩) := Lib.hid (O5.dis F4.out (Nat.le_refl _) _ _ _ _); have R6 := Lib.hid (row_one w5 ⟨(k : Int), true, A5, n5, c5⟩ (w5.heap.size + 1) (Nat.lt_succ_self _)); have C6 := Lib.hid (C5.out.below B6.out); have F6 := Lib.hid (F5.out.below B6.out); have X6F := Lib.hid (X5F.out.grown (only_of_below B6.out none) (by simp)); have N6 : Hid (BytesS (w5.alloc (.cells #[.int .i64 (k : Int), .bool true, .slice A5 n5 c5] 46)) (fun b => gv + 1 ≤ b ∧ b < (w5.alloc (.cells #[.int .i64 (k : Int), .bool true, .slice A5 n5 c5] 46)).heap.size ∧ (Value.slice A n c).ownBlock ≠ some b) (.slice A5 n5 c5) []) := Lib.hid ((N5.out.grown (only_of_below B6.out none) (by simp)).more (fun b h => ⟨h.1, Nat.lt_of_lt_of_le h.2.1 B6.out.size, h.2.2⟩)); have T6 := Lib.hid (H5.out.trans (B6.out.mono H5.out.size)); have HG6 : Hid (gv + 1 ≤ (w5.alloc (.cells #[.int .i64 (k : Int), .bool true, .slice A5 n5 c5] 46)).heap.size) := Lib.hid (Nat.le_trans HP.out (Nat.le_trans b5.size B6.out.size)); have HW6 := Lib.hid (C6.out.row); rw [hM.out.2] at HW6; have A6 := Lib.hid (A5'.out.after B6.out); clear KO b5 O5 hn5 C5 N5 A5' B6)
              | (at_builtin; go_loud (refine wpl_app_row rowC (by decide) rfl (.tmp 36) (.tmp 39) rfl rfl HW6.out ⟨w5.heap.size, 0, none⟩ 1 1 (crow ⟨(k : Int), true, A5, n5, c5⟩) rfl (by decide) rfl (w5.heap.size + 1) R6.out (crow_one _) (by omega) (by decide) HG6.out (n + 1) rfl ?_); intro A10 c10 w10 r10 g10 o10; have C10 := Lib.hid (C6.out.append N6.out r10 (by rw [hM.out.2]) g10 o10); have F10 := Lib.hid (ChFree.append (x := ⟨(k : Int), true, A5, n5, c5⟩) F6.out X6F.out HDS.out g10 o10); have T10 := Lib.hid (T6.out.grown g10 T6.out.size (fun b e => by have := (World.ownsRow.lt C6.out.row b e).1; have := GV.out; omega)); have A10' := Lib.hid (show LArr w10 gv L0 from ⟨(g10.block gv A6.out.lt (fun e => by have := (World.ownsRow.lt C6.out.row gv e.symm).1; omega)).trans A6.out.1, A6.out.2⟩); clear r10 g10 o10))
            exact ⟨⟨k + 1, n + 1, _, _, cs ++ [⟨(k : Int), true, A5, n5, c5⟩], by omega, by omega, rfl, by go_num, Lib.hid (by rw [HN1.out, List.map_append, List.map_cons, List.map_nil, HBD.out]; exact C10.out), F10, Lib.hid ⟨by rw [HN1.out, List.map_append, List.map_append, hM.out.1, List.map_cons, List.map_nil, List.map_cons, List.map_nil]; unfold kg chKg; rw [← HGE.out], by rw [List.length_append, hM.out.2]; rfl⟩, A10', T10⟩, by simp [intOf]; omega⟩
          | false =>
            have HN1 : Hid (chgTo th P (k + 1) = chgTo th P k) := Lib.hid (chgTo_no (fun e2 he => by
              rw [HE.out] at he
              cases he
              rw [← HTB.out, ← HGE.out]
              rfl))
            go_wp2_with (first
              | (with_reducible refine wpl_lload (.tmp 4) rfl rfl A2.out rfl ?_)
              | ((with_reducible refine KH.out.mono ?_); rintro e4 w4 ⟨rfl, b4⟩; have A4 := Lib.hid (A2.out.after b4); have H4 := Lib.hid (H2.out.trans (b4.mono H2.out.size)); have O4 := Lib.hid (O2.out.below b4); have F4 := Lib.hid (F2.out.below b4); clear KH b4 A2 H2 O2))
            exact ⟨⟨k + 1, n, A, c, cs, by omega, by omega, rfl, by go_num, Lib.hid (by rw [HN1.out]; exact O4.out), F4, Lib.hid (by rw [HN1.out]; exact hM.out), A4, H4⟩, by simp [intOf]; omega⟩
        | false =>
          have HN1 := Lib.hid (chgTo_yes (th := th) HE.out (by rw [← HGE.out]; simp))
          go_upto_region 8 with fail
          obtain ⟨w4, hw4⟩ : ∃ w4, w4 = wr.alloc (.cells #[.int .i64 (k : Int), .bool false, .slice xA xn xc] 46) := ⟨_, rfl⟩
          have A4 := A2; have H4 := H2; have O4 := O2; have F4 := F2; have X4 := X2; have BY4 := BY2
          rw [← hw4] at A4 H4 O4 F4 X4 BY4 ⊢
          clear hw4 KH A2 H2 O2 X2 BY2 x1 B2
          obtain ⟨p, hp⟩ : ∃ p, p = wr.heap.size := ⟨_, rfl⟩
          have HP : Hid (gv + 1 ≤ w4.heap.size) := Lib.hid (A4.out.lt)
          rw [← hp] at X4 ⊢
          clear hp
          have KO := Lib.hid (own_any (k : Int) false (.slice xA xn xc) e.body w4 BY4.out HLB.out)
          simp only [Bool.false_eq_true, if_false] at KO
          have HBD : Hid (chBody ((k : Int), e) = e.body) := Lib.hid (by unfold chBody; rw [← HGE.out]; rfl)
          have HBL : Hid ((e.body : List UInt8).length ≤ 100000) := Lib.hid (HLB.out)
          go_wp2_with (first
            | (with_reducible refine wpl_seg_load aggC sizeC (.tmp 6) rfl rfl X4.out 0 [.int .i64 (k : Int), .bool false, .slice xA xn xc] rfl rfl rfl ?_)
            | ((with_reducible refine KO.out.mono ?_); rintro e5 w5 ⟨A5, c5, n5, hn5, rfl, O5, b5⟩; have C5 := Lib.hid (O4.out.below b5); have F5 := Lib.hid (F4.out.below b5); have X5F : Hid (CFree1 w5 (gv + 1) (.slice A n c) A5) := Lib.hid (O5.free1 HP.out (fun b e => (World.ownsRow.lt O4.out.row b e).2)); have H5 := Lib.hid (H4.out.trans (b5.mono H4.out.size)); have N5 : Hid (BytesS w5 (fun b => gv + 1 ≤ b ∧ b < w5.heap.size ∧ (Value.slice A n c).ownBlock ≠ some b) (.slice A5 n5 c5) e.body) := Lib.hid ((bytesS_cut (Own.toS (S := fun b => w4.heap.size ≤ b) O5 (fun b h => h) HBL.out)).more (fun b h => ⟨by have h1 : w4.heap.size ≤ b := h.1; have := HP.out; omega, h.2, fun e => by have h1 : w4.heap.size ≤ b := h.1; have h2 : b < w4.heap.size := (World.ownsRow.lt O4.out.row b e).2; omega⟩)); have A5' := Lib.hid (A4.out.after b5); have B6 := Lib.hid ((Below.refl w5.heap.size w5).alloc (Nat.le_refl _) (.cells #[.int .i64 (k : Int), .bool false, .slice A5 n5 c5] 46)); have HDS : Hid (∀ y ∈ cs, CDis y ⟨(k : Int), false, A5, n5, c5⟩) := Lib.hid (O5.dis F4.out (Nat.le_refl _) _ _ _ _); have R6 := Lib.hid (row_one w5 ⟨(k : Int), false, A5, n5, c5⟩ (w5.heap.size + 1) (Nat.lt_succ_self _)); have C6 := Lib.hid (C5.out.below B6.out); have F6 := Lib.hid (F5.out.below B6.out); have X6F := Lib.hid (X5F.out.grown (only_of_below B6.out none) (by simp)); have N6 : Hid (BytesS (w5.alloc (.cells #[.int .i64 (k : Int), .bool false, .slice A5 n5 c5] 46)) (fun b => gv + 1 ≤ b ∧ b < (w5.alloc (.cells #[.int .i64 (k : Int), .bool false, .slice A5 n5 c5] 46)).heap.size ∧ (Value.slice A n c).ownBlock ≠ some b) (.slice A5 n5 c5) e.body) := Lib.hid ((N5.out.grown (only_of_below B6.out none) (by simp)).more (fun b h => ⟨h.1, Nat.lt_of_lt_of_le h.2.1 B6.out.size, h.2.2⟩)); have T6 := Lib.hid (H5.out.trans (B6.out.mono H5.out.size)); have HG6 : Hid (gv + 1 ≤ (w5.alloc (.cells #[.int .i64 (k : Int), .bool false, .slice A5 n5 c5] 46)).heap.size) := Lib.hid (Nat.le_trans HP.out (Nat.le_trans b5.size B6.out.size)); have HW6 := Lib.hid (C6.out.row); rw [hM.out.2] at HW6; have A6 := Lib.hid (A5'.out.after B6.out); clear KO b5 O5 hn5 C5 N5 A5' B6)
            | (at_builtin; go_loud (refine wpl_app_row rowC (by decide) rfl (.tmp 36) (.tmp 39) rfl rfl HW6.out ⟨w5.heap.size, 0, none⟩ 1 1 (crow ⟨(k : Int), false, A5, n5, c5⟩) rfl (by decide) rfl (w5.heap.size + 1) R6.out (crow_one _) (by omega) (by decide) HG6.out (n + 1) rfl ?_); intro A10 c10 w10 r10 g10 o10; have C10 := Lib.hid (C6.out.append N6.out r10 (by rw [hM.out.2]) g10 o10); have F10 := Lib.hid (ChFree.append (x := ⟨(k : Int), false, A5, n5, c5⟩) F6.out X6F.out HDS.out g10 o10); have T10 := Lib.hid (T6.out.grown g10 T6.out.size (fun b e => by have := (World.ownsRow.lt C6.out.row b e).1; have := GV.out; omega)); have A10' := Lib.hid (show LArr w10 gv L0 from ⟨(g10.block gv A6.out.lt (fun e => by have := (World.ownsRow.lt C6.out.row gv e.symm).1; omega)).trans A6.out.1, A6.out.2⟩); clear r10 g10 o10))
          exact ⟨⟨k + 1, n + 1, _, _, cs ++ [⟨(k : Int), false, A5, n5, c5⟩], by omega, by omega, rfl, by go_num, Lib.hid (by rw [HN1.out, List.map_append, List.map_cons, List.map_nil, HBD.out]; exact C10.out), F10, Lib.hid ⟨by rw [HN1.out, List.map_append, List.map_append, hM.out.1, List.map_cons, List.map_nil, List.map_cons, List.map_nil]; unfold kg chKg; rw [← HGE.out], by rw [List.length_append, hM.out.2]; rfl⟩, A10', T10⟩, by simp [intOf]; omega⟩
    · obtain rfl : k = 256 := by omega
      clear MR
      go_wp2_with fail
      go_ret
      exact ⟨_, cs, rfl, hO.out.lower (by have := GV.out; omega), hFr.out.lower (by have := GV.out; omega), hM.out.1, hb.out⟩
theorem changes_cat (i : CI) (N : Nat) (P : Int → Option CE) (S : Nat → Prop) (w : World) (h : CAt w i N P S) (hPb : ∀ z e, P z = some e → e.body.length ≤ 100000) :
    Calls Try.prog 24 #[.pointer (some ⟨i.q, 0, none⟩)] w fun e w' => ChgC w (chgTo i.th P 256) e w' :=
  (changes_free i N P S w h hPb).mono fun _ _ ⟨v, cs, h1, h2, _, h3, h4⟩ => ⟨v, cs, h1, h2, h3, h4⟩
end Go.Proofs.Ytppodbijdhcclaa

