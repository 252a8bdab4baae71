/- Several texts of the proof, joined: what each has is said at its head. -/
import Derived.Test.YtppodbijdhcclaaQCacheJB
import Derived.Test.YtppodbijdhcclaaQLiveJ
import Derived.Test.YtppodbijdhcclaaQLogK
import Derived.Test.YtppodbijdhcclaaQCore
import Derived.RegionTactic
import Derived.Deep.RegionHeld3
/- Put of the cache: what it answers, and what its map tells behind it. No condition. -/
namespace Go.Proofs.Ytppodbijdhcclaa
open Go Go.RowKit Go.Maps
theorem step_cput {ops : Array Oper} {o : Oper} {a : Act} {w : World} {K : Act → World → Prop} {Q : Exit → Act → World → Prop} {E : Prop} (hgd : Region.wanted o (yielded ops a.tmps) = true) (mm x v : Operand) (hop : o.op = .mapUpdate 87 mm x v)
    {m N : Nat} {D : DataW Value} (hm : a.eval mm = .map (some m)) (hown : w.ownsMap Try.prog 3 chR m N D) (hn : N < maxLen) (k : Int) (hx : a.eval x = .int .i64 k) (y : CV) (hv : a.eval v = cval y) (hwf : (Lit.int .i64 k).wf = true)
    (h : ∀ w', w'.ownsMap Try.prog 3 chR m (N + 1) (D.put (.int .i64 k) (.held (cval y))) → w.grownBy w' (some m) → K (a.put o.dst undef) w') : if Region.wanted o (yielded ops a.tmps) = true then Oper.wp Try.prog o a w K Q else E := by
  rw [if_pos hgd]
  obtain ⟨w', hrun, r1, r2⟩ := hown.store cKey Try.underlying87 hn (keyC hwf) (chR_mk y)
  unfold Oper.wp
  simp [execOp, hop, hm, hx, hv, hrun, Result.andThen]
  exact h w' r1 r2.grown
/-- what the map's elements say of their nodes: f as they lie, P plainly; their bodies' blocks are of S -/
def Tells (w : World) (S : Nat → Prop) (f : Int → Option CV) (P : Int → Option CE) : Prop := ∀ z, (f z).map (fun x => x.g) = (P z).map (fun e => e.gone) ∧ ∀ x e, f z = some x → P z = some e → BytesS w S (.slice x.A x.n x.c) e.body
theorem BytesS.grown {w w' : World} {row : Option Nat} {S : Nat → Prop} {v : Value} {l : List UInt8} (h : BytesS w S v l) (g : w.grownBy w' row) (hs : ∀ b, S b → some b ≠ row) : BytesS w' S v l := by
  obtain ⟨A, c, h1, h2, h3, h4⟩ := h
  refine ⟨A, c, h1, h2, h3, fun j u hu => ?_⟩
  obtain ⟨a, e, hS, hc⟩ := h4 j u hu
  exact ⟨a, e, hS, g.cell hc (by rw [add_block]; exact hs _ hS)⟩
theorem Tells.grown {w w' : World} {row : Option Nat} {S : Nat → Prop} {f : Int → Option CV} {P : Int → Option CE} (h : Tells w S f P) (g : w.grownBy w' row) (hs : ∀ b, S b → some b ≠ row) : Tells w' S f P := fun z => ⟨(h z).1, fun x e hx he => ((h z).2 x e hx he).grown g hs⟩
theorem BytesS.more {w : World} {S S' : Nat → Prop} {v : Value} {l : List UInt8} (h : BytesS w S v l) (hs : ∀ b, S b → S' b) : BytesS w S' v l := by
  obtain ⟨A, c, h1, h2, h3, h4⟩ := h
  refine ⟨A, c, h1, h2, h3, fun j u hu => ?_⟩
  obtain ⟨a, e, hS, hc⟩ := h4 j u hu
  exact ⟨a, e, hs _ hS, hc⟩
theorem Own.toS {w : World} {base : Nat} {A : Option Addr} {n c : Nat} {l : List UInt8} {S : Nat → Prop} (h : Own 5 w base (.slice A n c) l) (hs : ∀ b, base ≤ b → S b) (hl : l.length ≤ 100000) : BytesS w S (.slice A n c) l := by
  obtain ⟨A', c', e, h2, h3, h4⟩ := h.bytes (by simp only [maxLen]; omega)
  cases e
  refine ⟨A, c, rfl, h2, h3, fun j u hu => ?_⟩
  obtain ⟨a, e, _, hc⟩ := h4 j u hu
  subst e
  have h0 : 0 < l.length := by
    have := (List.getElem?_eq_some_iff.1 hu).1
    rw [bv_length] at this
    omega
  obtain ⟨g, e2, hb, _⟩ := h.addr h0
  cases e2
  exact ⟨_, rfl, hs _ hb, hc⟩
def putP (P : Int → Option CE) (k : Int) (g : Bool) (l : List UInt8) : Int → Option CE := fun z => if z = k then some ⟨g, if g then [] else l⟩ else P z
theorem Tells.put {w : World} {S : Nat → Prop} {f : Int → Option CV} {P : Int → Option CE} (h : Tells w S f P) (y : CV) (l : List UInt8) (hy : BytesS w S (.slice y.A y.n y.c) (if y.g then [] else l)) : Tells w S (fun z => if z = y.k then some y else f z) (putP P y.k y.g l) := fun z => by
  unfold putP
  by_cases e : z = y.k
  · simp only [if_pos e]
    exact ⟨rfl, fun x e hx he => by cases hx; cases he; exact hy⟩
  · simp only [if_neg e]
    exact h z
def putTo (P : Int → Option CE) (cs : List CV) (ls : List (List UInt8)) : Nat → Int → Option CE
  | 0 => P
  | i + 1 => putP (putTo P cs ls i) (cs.getD i ⟨0, false, none, 0, 0⟩).k (cs.getD i ⟨0, false, none, 0, 0⟩).g (ls.getD i [])
theorem rightC_key : ∀ (cs : List CV) (L : List UInt8), rightC L cs = true → ∀ (i : Nat) (x : CV), cs[i]? = some x → (0 ≤ x.k ∧ x.k < 256) ∧ x.n ≤ 224
  | [], _, _, i, x, h => by simp at h
  | c :: cs, L, hr, i, x, h => by
    unfold rightC at hr
    split at hr
    · rename_i hc
      cases i with
      | zero =>
        cases h
        have := hc.1
        unfold fitC at this
        simpa using this
      | succ i => exact rightC_key cs _ hr i x h
    · cases hr
theorem wfC {z : Int} (h : 0 ≤ z ∧ z < 256) : (Lit.int .i64 z).wf = true := by
  simp only [Lit.wf, Bool.and_eq_true, IntKind.min, IntKind.max, IntKind.signed, IntKind.bits]
  simp
  omega
/-- the bodies of the changes -/
def BodL (w : World) (B : Nat) (cs : List CV) (ls : List (List UInt8)) : Prop := cs.length = ls.length ∧ ∀ (i : Nat) (x : CV), cs[i]? = some x → Bytes w B (.slice x.A x.n x.c) (ls.getD i [])
theorem BodL.bods {w : World} {B : Nat} {cs : List CV} {ls : List (List UInt8)} (h : BodL w B cs ls) : Bods w B cs := fun i x hx => ⟨_, h.2 i x hx⟩
def liveF (f : Int → Option CV) (L : List UInt8) (z : Int) : Bool := match f z with | some x => !x.g | none => lhas L z
def cntL (L : List UInt8) : Nat := (keysTo L 256).length
end Go.Proofs.Ytppodbijdhcclaa

/- Put of the cache. No condition. -/
namespace Go.Proofs.Ytppodbijdhcclaa
open Go Go.RowKit Go.Maps
theorem neMap {w : World} {g m N : Nat} {D : DataW Value} {cs : Array Value} {t : TypeId} {fr : Nat × Nat} (h : w.heap[g]? = some (.cells cs t fr)) (hm : w.ownsMap Try.prog 3 chR m N D) : g ≠ m := fun e => by
  obtain ⟨es, clock, hb, _⟩ := hm
  rw [e, hb] at h
  cases h
theorem map_nocell {w : World} {m N : Nat} {D : DataW Value} (hm : w.ownsMap Try.prog 3 chR m N D) (p : Addr) (hp : p.block = m) : w.cell? p = none := by
  obtain ⟨es, clock, hb, _⟩ := hm
  simp [World.cell?, hp, hb]
theorem keepAll {w w' : World} {m N N2 : Nat} {D D2 : DataW Value} (g : w.grownBy w' (some m)) (h : w.ownsMap Try.prog 3 chR m N D) (h2 : w'.ownsMap Try.prog 3 chR m N2 D2) : ∀ p : Addr, p.block < w.heap.size → w'.cell? p = w.cell? p := fun p hp => by
  by_cases e : p.block = m
  · rw [map_nocell h p e, map_nocell h2 p e]
  · exact World.cell?_of_block (g.block p.block hp (by simp only [ne_eq, Option.some.injEq]; exact e))
theorem Chs.keep {w w' : World} {B : Nat} {v : Value} {cs : List CV} (h : Chs w B v cs) (hk : ∀ p : Addr, p.block < B → w'.cell? p = w.cell? p) : Chs w' B v cs := by
  obtain ⟨A, c, h1, h2, h3, h4⟩ := h
  exact ⟨A, c, h1, h2, h3, h4.keep hk⟩
set_option maxRecDepth 100000 in
set_option maxHeartbeats 16000000 in
theorem put_any (q m s N : Nat) (f : Int → Option CV) (D : DataW Value) (S : Nat → Prop) (P : Int → Option CE) (bs : List ByteArray) (th : List Bool) (mo : Int) (v : Value) (cs : List CV) (ls : List (List UInt8)) (w : World)
    (hq : Cc w q m s) (hs : Src w s bs th mo) (hm : w.ownsMap Try.prog 3 chR m N D) (hf : MpD D f) (hp : Tells w S f P) (hS : ∀ b, S b → b ≠ m) (hc : Chs w w.heap.size v cs) (hl : BodL w w.heap.size cs ls) (hz : cs.length ≤ 1000) (hN : N ≤ 1000000) :
    Calls Try.prog 19 #[.pointer (some ⟨q, 0, none⟩), v] w fun e w' =>
      (rightC lzeros cs = false ∧ e = .returned (.int .i64 1) ∧ Below w.heap.size w w') ∨
      (rightC lzeros cs = true ∧ ∃ M, M.length = 32 ∧ (∀ z, lhas M z = liveF f (srcTo th 256) z) ∧
        (((mo < cntL (behL M cs) ∧ cntL M < cntL (behL M cs)) ∧ e = .returned (.int .i64 40) ∧ Below w.heap.size w w') ∨
         (¬ (mo < cntL (behL M cs) ∧ cntL M < cntL (behL M cs)) ∧ e = .returned (.int .i64 0) ∧ w.grownBy w' (some m) ∧ ∃ f2 D2, w'.ownsMap Try.prog 3 chR m (N + cs.length) D2 ∧ MpD D2 f2 ∧ Tells w' (fun b => S b ∨ w.heap.size ≤ b) f2 (putTo P cs ls cs.length)))) := by
  obtain ⟨A, c, rfl, hcc, hcm, _⟩ := id hc
  have Q0 := Lib.hid hq
  have S0 := Lib.hid hs
  have M0 := Lib.hid hm
  have HF := Lib.hid hf
  have HP := Lib.hid hp
  have HS := Lib.hid hS
  have C0 := Lib.hid hc
  have L0 := Lib.hid hl
  have z0 := zeroLive
  obtain ⟨NC, hNC⟩ : ∃ NC, cs.length = NC := ⟨_, rfl⟩
  have HNC := Lib.hid hNC
  have KR := Lib.hid (cright_any _ cs w hc hl.bods hz)
  rw [hNC] at hz hcc C0 KR ⊢
  clear hq hs hm hf hp hS hc hl hNC
  have QL : Hid (q < w.heap.size ∧ s < w.heap.size ∧ m < w.heap.size ∧ q ≠ m ∧ s ≠ m) := Lib.hid ⟨Blk.lt Q0.out, S0.out.lt, M0.out.lt, neMap Q0.out M0.out, neMap S0.out.1 M0.out⟩
  obtain ⟨b, hb⟩ : ∃ b, b = rightC lzeros cs := ⟨_, rfl⟩
  rw [← hb] at KR
  have HB := Lib.hid hb
  clear hb
  go_enter Try.func19, Try.ntmps19
  cases b with
  | false =>
    go_wp2_with ((with_reducible refine KR.out.mono ?_); rintro e w1 ⟨rfl, b1⟩; have H1 := Lib.hid b1; clear KR b1)
    go_ret
    exact .inl ⟨HB.out.symm, rfl, H1.out⟩
  | true =>
    go_upto_region 3 with ((with_reducible refine KR.out.mono ?_); rintro e w1 ⟨rfl, b1⟩; have H1 := Lib.hid b1; clear KR b1)
    have KL := Lib.hid (clive_any q m s N f D bs th mo w1 (Blk.after Q0.out H1.out) (S0.out.after H1.out) (M0.out.kept (only_of_below H1.out none) (by simp)) HF.out)
    go_upto_region 4 with (first
      | ((with_reducible refine KL.out.mono ?_); rintro e w2 ⟨M, ML', rfl, HM', b2⟩; have ML := Lib.hid ML'; have HM := Lib.hid HM'; have H2 := Lib.hid (H1.out.trans (b2.mono H1.out.size)); have A2 := Lib.hid (LArr.new w2 lzeros_length); clear KL b2 ML' HM')
      | (with_reducible refine wpl_lstore (.tmp 5) (.tmp 13) rfl rfl A2.out rfl ML.out rfl ?_; intro w3 A3' g3 e3; have A3 := Lib.hid A3'; have H3 := Lib.hid ((H2.out.alloc H2.out.size (.cells (cl lzeros) 53)).grown g3 (Nat.le_trans H2.out.size (by simp)) (fun k e => by cases e; exact H2.out.size)); clear A3' g3 e3 A2))
    obtain ⟨gn, hgn⟩ : ∃ gn, gn = w2.heap.size := ⟨_, rfl⟩
    have GN : Hid (w.heap.size ≤ gn) := Lib.hid (by rw [hgn]; exact H2.out.size)
    rw [← hgn] at A3 ⊢
    clear hgn H2 H1
    have KB := Lib.hid (behind_any M ML.out (.slice A NC c) cs w3 (by obtain ⟨a1, a2, a3, a4, a5, a6⟩ := C0.out.below H3.out; exact ⟨a1, a2, a3, a4, a5, a6.more H3.out.size⟩) (by rw [HNC.out]; exact hz))
    have HL2 : Hid ((behL M cs).length = 32) := Lib.hid (by rw [behL_length]; exact ML.out)
    obtain ⟨M2, hM2⟩ : ∃ M2, M2 = behL M cs := ⟨_, rfl⟩
    rw [← hM2] at KB HL2
    have HM2 := Lib.hid hM2
    clear hM2
    go_upto_region 5 with (first
      | (with_reducible refine wpl_lload (.tmp 5) rfl rfl A3.out rfl ?_)
      | ((with_reducible refine KB.out.mono ?_); rintro e w4 ⟨rfl, b4⟩; have A4 := Lib.hid (A3.out.after b4); have H4 := Lib.hid (H3.out.trans (b4.mono H3.out.size)); have KY4 := Lib.hid (keys_any M2 HL2.out w4); clear KB b4 A3 H3)
      | ((with_reducible refine KY4.out.mono ?_); rintro e w5 ⟨X5, c5, rfl, _, b5⟩; have A5 := Lib.hid (A4.out.after b5); have H5 := Lib.hid (H4.out.trans (b5.mono H4.out.size)); clear KY4 b5 A4 H4))
    have q0 : w5.cell? ⟨q, 0, none⟩ = some (.iface 26 (.pointer (some ⟨s, 0, none⟩))) := Blk.cell (Blk.below Q0.out H5.out QL.out.1) 0
    have ml := meth_limit
    have KM := Lib.hid (limit_any s bs th mo w5 (S0.out.below H5.out QL.out.2.1))
    obtain ⟨n2, hn2⟩ : ∃ n2, n2 = (keysTo M2 256).length := ⟨_, rfl⟩
    rw [← hn2] at ⊢
    have HN2 : Hid (cntL (behL M cs) = n2) := Lib.hid (by rw [hn2, ← HM2.out]; rfl)
    clear hn2 HL2 HM2
    obtain ⟨n1, hn1⟩ : ∃ n1, n1 = (keysTo M 256).length := ⟨_, rfl⟩
    have HN1 : Hid (cntL M = n1) := Lib.hid (by rw [hn1]; rfl)
    have KY : Hid (∀ w', Calls Try.prog 38 #[.agg (cl M)] w' fun e w2 => ∃ X c, e = .returned (.slice X n1 c) ∧ Below w'.heap.size w' w2) := Lib.hid (fun w' => (keys_any M ML.out w').mono (fun e w2 h => by obtain ⟨X, c, h1, _, h2⟩ := h; exact ⟨X, c, by rw [hn1]; exact h1, h2⟩))
    clear hn1
    by_cases hmo : mo < (n2 : Int)
    · have d1 : decide (mo < (n2 : Int)) = true := decide_eq_true hmo
      by_cases hn : n1 < n2
      · have d2 : decide ((n1 : Int) < (n2 : Int)) = true := decide_eq_true (by omega)
        go_wp2_with (first
          | ((with_reducible refine KM.out.mono ?_); rintro e w6 ⟨rfl, b6⟩; have A6 := Lib.hid (A5.out.after b6); have H6 := Lib.hid (H5.out.trans (b6.mono H5.out.size)); have KY6 := Lib.hid (KY.out w6); clear KM b6 A5 H5 ml q0)
          | (with_reducible refine wpl_lload (.tmp 5) rfl rfl A6.out rfl ?_)
          | ((with_reducible refine KY6.out.mono ?_); rintro e w7 ⟨X7, c7, rfl, b7⟩; have H7 := Lib.hid (H6.out.trans (b7.mono H6.out.size)); clear KY6 b7 A6 H6))
        go_ret
        exact .inr ⟨HB.out.symm, M, ML.out, HM.out, .inl ⟨⟨by rw [HN2.out]; exact hmo, by rw [HN1.out, HN2.out]; exact hn⟩, rfl, H7.out⟩⟩
      · have d2 : decide ((n1 : Int) < (n2 : Int)) = false := decide_eq_false (by omega)
        have HNO : Hid (¬ (mo < cntL (behL M cs) ∧ cntL M < cntL (behL M cs))) := Lib.hid (fun h => hn (by rw [← HN1.out, ← HN2.out]; exact h.2))
        go_upto_region 7 with (first
          | ((with_reducible refine KM.out.mono ?_); rintro e w6 ⟨rfl, b6⟩; have A6 := Lib.hid (A5.out.after b6); have H6 := Lib.hid (H5.out.trans (b6.mono H5.out.size)); have KY6 := Lib.hid (KY.out w6); clear KM b6 A5 H5 ml q0)
          | (with_reducible refine wpl_lload (.tmp 5) rfl rfl A6.out rfl ?_)
          | ((with_reducible refine KY6.out.mono ?_); rintro e w7 ⟨X7, c7, rfl, b7⟩; have H7 := Lib.hid (H6.out.trans (b7.mono H6.out.size)); clear KY6 b7 A6 H6))
        clear KY d1 d2 hmo hn HN1 HN2
        obtain ⟨W0, hW0⟩ : ∃ W0, W0 = w7 := ⟨_, rfl⟩
        rw [← hW0] at H7 ⊢
        have HW := H7
        clear H7 hW0
        go_wp2_with fail
        go_loopw [35] (fun i wx => ∃ (k : Nat) (f2 : Int → Option CV) (D2 : DataW Value), k ≤ NC ∧ i = .int .i64 k ∧ Hid (wx.ownsMap Try.prog 3 chR m (N + k) D2) ∧ Hid (MpD D2 f2) ∧ Hid (Tells wx (fun b => S b ∨ w.heap.size ≤ b) f2 (putTo P cs ls k)) ∧ Hid (w.grownBy wx (some m))) (fun i _ => NC - (intOf i).toNat)
        case atStart => exact ⟨0, f, D, Nat.zero_le _, rfl, Lib.hid (M0.out.kept (only_of_below HW.out none) (by simp)), HF, Lib.hid (fun z => ⟨(HP.out z).1, fun x e hx he => (((HP.out z).2 x e hx he).grown (only_of_below HW.out none) (by simp)).more (fun b h => .inl h)⟩), Lib.hid (only_of_below HW.out _)⟩
        case round =>
          clear HW
          rename_i wr
          obtain ⟨k, f2, D2, hk, rfl, hM, hF, hT, hG⟩ := hrel
          by_cases hlt : k < NC
          · obtain ⟨x, hx⟩ : ∃ x, cs[k]? = some x := ⟨_, List.getElem?_eq_getElem (by rw [HNC.out]; exact hlt)⟩
            have KP := keepAll hG.out M0.out hM.out
            obtain ⟨a, rfl, hab, hck⟩ := (C0.out.keep KP).elem hx
            have hby := ((L0.out.2 k x hx).keep KP).more hG.out.size
            have hkey := rightC_key cs lzeros HB.out.symm k x hx
            obtain ⟨xk, xg, xA, xn, xc⟩ := x
            obtain ⟨l, hl⟩ : ∃ l, l = ls.getD k [] := ⟨_, rfl⟩
            rw [← hl] at hby
            have HNX : Hid (putTo P cs ls (k + 1) = putP (putTo P cs ls k) xk xg l) := Lib.hid (by
              show putP (putTo P cs ls k) (cs.getD k _).k (cs.getD k _).g (ls.getD k []) = _
              rw [List.getD_eq_getElem?_getD, hx, ← hl]
              rfl)
            have HLL : Hid (l.length = xn) := Lib.hid (by obtain ⟨_, _, e, _⟩ := hby; simp only [Value.slice.injEq] at e; exact e.2.1.symm)
            have HCK := Lib.hid (show ∀ j u, ([.int .i64 xk, .bool xg, .slice xA xn xc] : List Value)[j]? = some u → wr.cell? ((a.add (k * 3)).add j) = some u from hck)
            have HKY := Lib.hid hkey
            have HBY := Lib.hid hby
            simp only at HKY HBY
            clear hck hby hkey hl hx KP
            have H2 := Lib.hid ((Below.refl wr.heap.size wr).alloc (Nat.le_refl _) (.cells #[.int .i64 xk, .bool xg, .slice xA xn xc] 46))
            have X2 := Lib.hid (Blk.new3c wr (.int .i64 xk) (.bool xg) (.slice xA xn xc) 46)
            go_upto_region 10 with (with_reducible refine wpl_cells (q := a.add (k * 3)) (row := [.int .i64 xk, .bool xg, .slice xA xn xc]) aggC sizeC (.tmp 37) rfl rfl rfl rfl HCK.out ?_)
            have G2 := only_alloc hG.out (.cells #[.int .i64 xk, .bool xg, .slice xA xn xc] 46)
            have Q2 : Blk (wr.alloc (.cells #[.int .i64 xk, .bool xg, .slice xA xn xc] 46)) q 89 [.iface 26 (.pointer (some ⟨s, 0, none⟩)), .map (some m)] := Blk.grown Q0.out G2 (by simp only [ne_eq, Option.some.injEq]; exact QL.out.2.2.2.1)
            have M2 := hM.out.alloc (.cells #[.int .i64 xk, .bool xg, .slice xA xn xc] 46)
            have T2 := hT.out.grown (only_of_below H2.out none) (by simp)
            have PM : Hid (wr.heap.size ≠ m) := Lib.hid (neMap X2.out M2)
            have BY2 := (HBY.out.below H2.out).more H2.out.size
            obtain ⟨W3, hW3⟩ : ∃ W3, W3 = (wr.alloc (.cells #[.int .i64 xk, .bool xg, .slice xA xn xc] 46)).drew := ⟨_, rfl⟩
            have X3 : Hid (Blk W3 wr.heap.size 46 [.int .i64 xk, .bool xg, .slice xA xn xc]) := Lib.hid (by rw [hW3]; exact X2.out)
            have Q3 : Hid (Blk W3 q 89 [.iface 26 (.pointer (some ⟨s, 0, none⟩)), .map (some m)]) := Lib.hid (by rw [hW3]; exact Q2)
            have M3 : Hid (W3.ownsMap Try.prog 3 chR m (N + k) D2) := Lib.hid (by rw [hW3]; exact M2)
            have T3 : Hid (Tells W3 (fun b => S b ∨ w.heap.size ≤ b) f2 (putTo P cs ls k)) := Lib.hid (by rw [hW3]; exact T2)
            have G3 : Hid (w.grownBy W3 (some m)) := Lib.hid (by rw [hW3]; exact ⟨G2.os, G2.tape, G2.output, G2.size, G2.block⟩)
            have BY3 : Hid (Bytes W3 W3.heap.size (.slice xA xn xc) l) := Lib.hid (by rw [hW3]; exact BY2)
            have KO := Lib.hid (own_any xk xg (.slice xA xn xc) l W3 BY3.out (by rw [HLL.out]; have := HKY.out.2; omega))
            obtain ⟨p, hp⟩ : ∃ p, p = wr.heap.size := ⟨_, rfl⟩
            rw [← hp] at X3 PM ⊢
            have SS : Blk W3 q 89 [.iface 26 (.pointer (some ⟨s, 0, none⟩)), .map (some m)] ∧ Blk W3 p 46 [.int .i64 xk, .bool xg, .slice xA xn xc] := ⟨Q3.out, X3.out⟩
            clear G2 Q2 M2 T2 X2 H2 BY2 BY3 hM hT hG hp HBY HCK
            refine wp_region_held_drew (S := (fun w2 => Blk w2 q 89 [.iface 26 (.pointer (some ⟨s, 0, none⟩)), .map (some m)] ∧ Blk w2 p 46 [.int .i64 xk, .bool xg, .slice xA xn xc])) (by kernel_rfl) (by rw [← hW3]; exact SS) (fun _ => ?_)
            rw [← hW3]
            clear hW3
            refine wpAnyH_take (i := 0) (v := .pointer (some ⟨q, 0, none⟩)) rfl (by kernel_rfl) (by kernel_rfl) (by kernel_rfl) (fun _ _ _ h => h) (Or.inl ⟨by kernel_rfl, fun w _ => by go_simp⟩) SS ?_
            simp only [Act.put, List.getElem_toArray, List.getElem_cons_zero, List.setIfInBounds_toArray, List.set_cons_zero, List.set_cons_succ]
            refine wpAnyH_take (i := 1) (v := .pointer (some ⟨q, 0, none⟩)) rfl (by kernel_rfl) (by kernel_rfl) (by kernel_rfl) (fun _ _ _ h => h) (Or.inl ⟨by kernel_rfl, fun w _ => by go_simp⟩) SS ?_
            simp only [Act.put, List.getElem_toArray, List.getElem_cons_zero, List.getElem_cons_succ, List.setIfInBounds_toArray, List.set_cons_zero, List.set_cons_succ]
            refine wpAnyH_take (i := 2) (v := .pointer (some ⟨q, 1, none⟩)) rfl (by kernel_rfl) (by kernel_rfl) (by kernel_rfl) (fun _ _ _ h => h) (Or.inl ⟨by kernel_rfl, fun w _ => by go_simp⟩) SS ?_
            simp only [Act.put, List.getElem_toArray, List.getElem_cons_zero, List.getElem_cons_succ, List.setIfInBounds_toArray, List.set_cons_zero, List.set_cons_succ]
            refine wpAnyH_take (i := 3) (v := .map (some m)) rfl (by kernel_rfl) (by kernel_rfl) (by kernel_rfl) (fun _ _ _ h => h) (yields_one (ty := 87) (fun w => by kernel_rfl) (.tmp 41) (by kernel_rfl) (by kernel_rfl) (by kernel_rfl) (fun w2 h => h.1.cell 1)) SS ?_
            simp only [Act.put, List.getElem_toArray, List.getElem_cons_zero, List.getElem_cons_succ, List.setIfInBounds_toArray, List.set_cons_zero, List.set_cons_succ]
            refine wpAnyH_take (i := 4) (v := .pointer (some ⟨p, 0, none⟩)) rfl (by kernel_rfl) (by kernel_rfl) (by kernel_rfl) (fun _ _ _ h => h) (Or.inl ⟨by kernel_rfl, fun w _ => by go_simp⟩) SS ?_
            simp only [Act.put, List.getElem_toArray, List.getElem_cons_zero, List.getElem_cons_succ, List.setIfInBounds_toArray, List.set_cons_zero, List.set_cons_succ]
            refine wpAnyH_take (i := 5) (v := .int .i64 xk) rfl (by kernel_rfl) (by kernel_rfl) (by kernel_rfl) (fun _ _ _ h => h) (yields_one (ty := 3) (fun w => by kernel_rfl) (.tmp 43) (by kernel_rfl) (by kernel_rfl) (by kernel_rfl) (fun w2 h => h.2.cell 0)) SS ?_
            simp only [Act.put, List.getElem_toArray, List.getElem_cons_zero, List.getElem_cons_succ, List.setIfInBounds_toArray, List.set_cons_zero, List.set_cons_succ]
            refine wpAnyH_take (i := 6) (v := .agg #[.int .i64 xk, .bool xg, .slice xA xn xc]) rfl (by kernel_rfl) (by kernel_rfl) (by kernel_rfl) (fun _ _ _ h => h) (yields_seg aggC sizeC (.tmp 8) (by kernel_rfl) (by kernel_rfl) (by kernel_rfl) (g := p) (i := 0) (fun w2 h => h.2) rfl rfl) SS ?_
            simp only [Act.put, List.getElem_toArray, List.setIfInBounds_toArray]
            refine wpAnyH_ready (rs := [7]) (by kernel_rfl) (by simp) (AllReadyH.cons rfl (fun K hK => ?_) AllReadyH.nil)
            go_simp
            ((with_reducible refine KO.out.mono ?_); rintro e w5 ⟨A5, c5, n5, hn5, rfl, O5, b5⟩)
            have S5 := And.intro (SS.1.after b5) (SS.2.after b5)
            have M5 := Lib.hid (M3.out.kept (only_of_below b5 none) (by simp))
            have T5 := Lib.hid ((T3.out.grown (only_of_below b5 none) (by simp)).put ⟨xk, xg, A5, n5, c5⟩ l (Own.toS O5 (fun b h => .inr (Nat.le_trans G3.out.size h)) (by have := HLL.out; have := HKY.out.2; split <;> simp; omega)))
            have G5 := Lib.hid (only_trans G3.out (only_of_below b5 (some m)))
            refine hK _ _ S5 (fun _ => ?_)
            clear hK K b5 O5
            refine wpAnyH_ready (rs := [8]) (by kernel_rfl) (by simp) (AllReadyH.cons rfl (fun K hK => ?_) AllReadyH.nil)
            refine step_cput (by kernel_rfl) (.tmp 42) (.tmp 44) (.tmp 46) (by kernel_rfl) (m := m) (by kernel_rfl) M5.out (by simp only [maxLen]; omega) xk (by kernel_rfl) ⟨xk, xg, A5, n5, c5⟩ (by kernel_rfl) (wfC HKY.out.1) ?_
            intro w6 M6 g6
            have S6 := And.intro (S5.1.grown g6 (by simp only [ne_eq, Option.some.injEq]; exact QL.out.2.2.2.1)) (S5.2.grown g6 (by simp only [ne_eq, Option.some.injEq]; exact PM.out))
            have HM6 := Lib.hid M6
            have F6 := Lib.hid (MpD.put hF.out M5.out.isMap ⟨xk, xg, A5, n5, c5⟩ HKY.out.1)
            have T6 := Lib.hid (T5.out.grown g6 (fun b h e => by
              cases e
              rcases h with h | h
              · exact HS.out _ h rfl
              · have := QL.out.2.2.1; omega))
            have G6 := Lib.hid (only_trans G5.out g6)
            refine hK _ _ S6 (fun _ => ?_)
            clear hK K M6 g6
            refine wpAnyH_done (by kernel_rfl) ?_ _
            go_simp
            go_wp2_with fail
            exact ⟨⟨k + 1, _, _, by omega, by go_num, HM6, F6, Lib.hid (by rw [HNX.out]; exact T6.out), G6⟩, by simp [intOf]; omega⟩
          · obtain rfl : k = NC := by omega
            go_wp2_with fail
            go_ret
            exact .inr ⟨HB.out.symm, M, ML.out, HM.out, .inr ⟨HNO.out, rfl, hG.out, f2, D2, hM.out, hF.out, hT.out⟩⟩
    · have d1 : decide (mo < (n2 : Int)) = false := decide_eq_false hmo
      have HNO : Hid (¬ (mo < cntL (behL M cs) ∧ cntL M < cntL (behL M cs))) := Lib.hid (fun h => hmo (by rw [← HN2.out]; exact h.1))
      go_upto_region 7 with ((with_reducible refine KM.out.mono ?_); rintro e w6 ⟨rfl, b6⟩; have H6 := Lib.hid (H5.out.trans (b6.mono H5.out.size)); clear KM b6 A5 H5 ml q0)
      clear KY d1 hmo HN1 HN2
      obtain ⟨W0, hW0⟩ : ∃ W0, W0 = w6 := ⟨_, rfl⟩
      rw [← hW0] at H6 ⊢
      have HW := H6
      clear H6 hW0
      go_wp2_with fail
      go_loopw [35] (fun i wx => ∃ (k : Nat) (f2 : Int → Option CV) (D2 : DataW Value), k ≤ NC ∧ i = .int .i64 k ∧ Hid (wx.ownsMap Try.prog 3 chR m (N + k) D2) ∧ Hid (MpD D2 f2) ∧ Hid (Tells wx (fun b => S b ∨ w.heap.size ≤ b) f2 (putTo P cs ls k)) ∧ Hid (w.grownBy wx (some m))) (fun i _ => NC - (intOf i).toNat)
      case atStart => exact ⟨0, f, D, Nat.zero_le _, rfl, Lib.hid (M0.out.kept (only_of_below HW.out none) (by simp)), HF, Lib.hid (fun z => ⟨(HP.out z).1, fun x e hx he => (((HP.out z).2 x e hx he).grown (only_of_below HW.out none) (by simp)).more (fun b h => .inl h)⟩), Lib.hid (only_of_below HW.out _)⟩
      case round =>
        clear HW
        rename_i wr
        obtain ⟨k, f2, D2, hk, rfl, hM, hF, hT, hG⟩ := hrel
        by_cases hlt : k < NC
        · obtain ⟨x, hx⟩ : ∃ x, cs[k]? = some x := ⟨_, List.getElem?_eq_getElem (by rw [HNC.out]; exact hlt)⟩
          have KP := keepAll hG.out M0.out hM.out
          obtain ⟨a, rfl, hab, hck⟩ := (C0.out.keep KP).elem hx
          have hby := ((L0.out.2 k x hx).keep KP).more hG.out.size
          have hkey := rightC_key cs lzeros HB.out.symm k x hx
          obtain ⟨xk, xg, xA, xn, xc⟩ := x
          obtain ⟨l, hl⟩ : ∃ l, l = ls.getD k [] := ⟨_, rfl⟩
          rw [← hl] at hby
          have HNX : Hid (putTo P cs ls (k + 1) = putP (putTo P cs ls k) xk xg l) := Lib.hid (by
            show putP (putTo P cs ls k) (cs.getD k _).k (cs.getD k _).g (ls.getD k []) = _
            rw [List.getD_eq_getElem?_getD, hx, ← hl]
            rfl)
          have HLL : Hid (l.length = xn) := Lib.hid (by obtain ⟨_, _, e, _⟩ := hby; simp only [Value.slice.injEq] at e; exact e.2.1.symm)
          have HCK := Lib.hid (show ∀ j u, ([.int .i64 xk, .bool xg, .slice xA xn xc] : List Value)[j]? = some u → wr.cell? ((a.add (k * 3)).add j) = some u from hck)
          have HKY := Lib.hid hkey
          have HBY := Lib.hid hby
          simp only at HKY HBY
          clear hck hby hkey hl hx KP
          have H2 := Lib.hid ((Below.refl wr.heap.size wr).alloc (Nat.le_refl _) (.cells #[.int .i64 xk, .bool xg, .slice xA xn xc] 46))
          have X2 := Lib.hid (Blk.new3c wr (.int .i64 xk) (.bool xg) (.slice xA xn xc) 46)
          go_upto_region 10 with (with_reducible refine wpl_cells (q := a.add (k * 3)) (row := [.int .i64 xk, .bool xg, .slice xA xn xc]) aggC sizeC (.tmp 37) rfl rfl rfl rfl HCK.out ?_)
          have G2 := only_alloc hG.out (.cells #[.int .i64 xk, .bool xg, .slice xA xn xc] 46)
          have Q2 : Blk (wr.alloc (.cells #[.int .i64 xk, .bool xg, .slice xA xn xc] 46)) q 89 [.iface 26 (.pointer (some ⟨s, 0, none⟩)), .map (some m)] := Blk.grown Q0.out G2 (by simp only [ne_eq, Option.some.injEq]; exact QL.out.2.2.2.1)
          have M2 := hM.out.alloc (.cells #[.int .i64 xk, .bool xg, .slice xA xn xc] 46)
          have T2 := hT.out.grown (only_of_below H2.out none) (by simp)
          have PM : Hid (wr.heap.size ≠ m) := Lib.hid (neMap X2.out M2)
          have BY2 := (HBY.out.below H2.out).more H2.out.size
          obtain ⟨W3, hW3⟩ : ∃ W3, W3 = (wr.alloc (.cells #[.int .i64 xk, .bool xg, .slice xA xn xc] 46)).drew := ⟨_, rfl⟩
          have X3 : Hid (Blk W3 wr.heap.size 46 [.int .i64 xk, .bool xg, .slice xA xn xc]) := Lib.hid (by rw [hW3]; exact X2.out)
          have Q3 : Hid (Blk W3 q 89 [.iface 26 (.pointer (some ⟨s, 0, none⟩)), .map (some m)]) := Lib.hid (by rw [hW3]; exact Q2)
          have M3 : Hid (W3.ownsMap Try.prog 3 chR m (N + k) D2) := Lib.hid (by rw [hW3]; exact M2)
          have T3 : Hid (Tells W3 (fun b => S b ∨ w.heap.size ≤ b) f2 (putTo P cs ls k)) := Lib.hid (by rw [hW3]; exact T2)
          have G3 : Hid (w.grownBy W3 (some m)) := Lib.hid (by rw [hW3]; exact ⟨G2.os, G2.tape, G2.output, G2.size, G2.block⟩)
          have BY3 : Hid (Bytes W3 W3.heap.size (.slice xA xn xc) l) := Lib.hid (by rw [hW3]; exact BY2)
          have KO := Lib.hid (own_any xk xg (.slice xA xn xc) l W3 BY3.out (by rw [HLL.out]; have := HKY.out.2; omega))
          obtain ⟨p, hp⟩ : ∃ p, p = wr.heap.size := ⟨_, rfl⟩
          rw [← hp] at X3 PM ⊢
          have SS : Blk W3 q 89 [.iface 26 (.pointer (some ⟨s, 0, none⟩)), .map (some m)] ∧ Blk W3 p 46 [.int .i64 xk, .bool xg, .slice xA xn xc] := ⟨Q3.out, X3.out⟩
          clear G2 Q2 M2 T2 X2 H2 BY2 BY3 hM hT hG hp HBY HCK
          refine wp_region_held_drew (S := (fun w2 => Blk w2 q 89 [.iface 26 (.pointer (some ⟨s, 0, none⟩)), .map (some m)] ∧ Blk w2 p 46 [.int .i64 xk, .bool xg, .slice xA xn xc])) (by kernel_rfl) (by rw [← hW3]; exact SS) (fun _ => ?_)
          rw [← hW3]
          clear hW3
          refine wpAnyH_take (i := 0) (v := .pointer (some ⟨q, 0, none⟩)) rfl (by kernel_rfl) (by kernel_rfl) (by kernel_rfl) (fun _ _ _ h => h) (Or.inl ⟨by kernel_rfl, fun w _ => by go_simp⟩) SS ?_
          simp only [Act.put, List.getElem_toArray, List.getElem_cons_zero, List.setIfInBounds_toArray, List.set_cons_zero, List.set_cons_succ]
          refine wpAnyH_take (i := 1) (v := .pointer (some ⟨q, 0, none⟩)) rfl (by kernel_rfl) (by kernel_rfl) (by kernel_rfl) (fun _ _ _ h => h) (Or.inl ⟨by kernel_rfl, fun w _ => by go_simp⟩) SS ?_
          simp only [Act.put, List.getElem_toArray, List.getElem_cons_zero, List.getElem_cons_succ, List.setIfInBounds_toArray, List.set_cons_zero, List.set_cons_succ]
          refine wpAnyH_take (i := 2) (v := .pointer (some ⟨q, 1, none⟩)) rfl (by kernel_rfl) (by kernel_rfl) (by kernel_rfl) (fun _ _ _ h => h) (Or.inl ⟨by kernel_rfl, fun w _ => by go_simp⟩) SS ?_
          simp only [Act.put, List.getElem_toArray, List.getElem_cons_zero, List.getElem_cons_succ, List.setIfInBounds_toArray, List.set_cons_zero, List.set_cons_succ]
          refine wpAnyH_take (i := 3) (v := .map (some m)) rfl (by kernel_rfl) (by kernel_rfl) (by kernel_rfl) (fun _ _ _ h => h) (yields_one (ty := 87) (fun w => by kernel_rfl) (.tmp 41) (by kernel_rfl) (by kernel_rfl) (by kernel_rfl) (fun w2 h => h.1.cell 1)) SS ?_
          simp only [Act.put, List.getElem_toArray, List.getElem_cons_zero, List.getElem_cons_succ, List.setIfInBounds_toArray, List.set_cons_zero, List.set_cons_succ]
          refine wpAnyH_take (i := 4) (v := .pointer (some ⟨p, 0, none⟩)) rfl (by kernel_rfl) (by kernel_rfl) (by kernel_rfl) (fun _ _ _ h => h) (Or.inl ⟨by kernel_rfl, fun w _ => by go_simp⟩) SS ?_
          simp only [Act.put, List.getElem_toArray, List.getElem_cons_zero, List.getElem_cons_succ, List.setIfInBounds_toArray, List.set_cons_zero, List.set_cons_succ]
          refine wpAnyH_take (i := 5) (v := .int .i64 xk) rfl (by kernel_rfl) (by kernel_rfl) (by kernel_rfl) (fun _ _ _ h => h) (yields_one (ty := 3) (fun w => by kernel_rfl) (.tmp 43) (by kernel_rfl) (by kernel_rfl) (by kernel_rfl) (fun w2 h => h.2.cell 0)) SS ?_
          simp only [Act.put, List.getElem_toArray, List.getElem_cons_zero, List.getElem_cons_succ, List.setIfInBounds_toArray, List.set_cons_zero, List.set_cons_succ]
          refine wpAnyH_take (i := 6) (v := .agg #[.int .i64 xk, .bool xg, .slice xA xn xc]) rfl (by kernel_rfl) (by kernel_rfl) (by kernel_rfl) (fun _ _ _ h => h) (yields_seg aggC sizeC (.tmp 8) (by kernel_rfl) (by kernel_rfl) (by kernel_rfl) (g := p) (i := 0) (fun w2 h => h.2) rfl rfl) SS ?_
          simp only [Act.put, List.getElem_toArray, List.setIfInBounds_toArray]
          refine wpAnyH_ready (rs := [7]) (by kernel_rfl) (by simp) (AllReadyH.cons rfl (fun K hK => ?_) AllReadyH.nil)
          go_simp
          ((with_reducible refine KO.out.mono ?_); rintro e w5 ⟨A5, c5, n5, hn5, rfl, O5, b5⟩)
          have S5 := And.intro (SS.1.after b5) (SS.2.after b5)
          have M5 := Lib.hid (M3.out.kept (only_of_below b5 none) (by simp))
          have T5 := Lib.hid ((T3.out.grown (only_of_below b5 none) (by simp)).put ⟨xk, xg, A5, n5, c5⟩ l (Own.toS O5 (fun b h => .inr (Nat.le_trans G3.out.size h)) (by have := HLL.out; have := HKY.out.2; split <;> simp; omega)))
          have G5 := Lib.hid (only_trans G3.out (only_of_below b5 (some m)))
          refine hK _ _ S5 (fun _ => ?_)
          clear hK K b5 O5
          refine wpAnyH_ready (rs := [8]) (by kernel_rfl) (by simp) (AllReadyH.cons rfl (fun K hK => ?_) AllReadyH.nil)
          refine step_cput (by kernel_rfl) (.tmp 42) (.tmp 44) (.tmp 46) (by kernel_rfl) (m := m) (by kernel_rfl) M5.out (by simp only [maxLen]; omega) xk (by kernel_rfl) ⟨xk, xg, A5, n5, c5⟩ (by kernel_rfl) (wfC HKY.out.1) ?_
          intro w6 M6 g6
          have S6 := And.intro (S5.1.grown g6 (by simp only [ne_eq, Option.some.injEq]; exact QL.out.2.2.2.1)) (S5.2.grown g6 (by simp only [ne_eq, Option.some.injEq]; exact PM.out))
          have HM6 := Lib.hid M6
          have F6 := Lib.hid (MpD.put hF.out M5.out.isMap ⟨xk, xg, A5, n5, c5⟩ HKY.out.1)
          have T6 := Lib.hid (T5.out.grown g6 (fun b h e => by
            cases e
            rcases h with h | h
            · exact HS.out _ h rfl
            · have := QL.out.2.2.1; omega))
          have G6 := Lib.hid (only_trans G5.out g6)
          refine hK _ _ S6 (fun _ => ?_)
          clear hK K M6 g6
          refine wpAnyH_done (by kernel_rfl) ?_ _
          go_simp
          go_wp2_with fail
          exact ⟨⟨k + 1, _, _, by omega, by go_num, HM6, F6, Lib.hid (by rw [HNX.out]; exact T6.out), G6⟩, by simp [intOf]; omega⟩
        · obtain rfl : k = NC := by omega
          go_wp2_with fail
          go_ret
          exact .inr ⟨HB.out.symm, M, ML.out, HM.out, .inr ⟨HNO.out, rfl, hG.out, f2, D2, hM.out, hF.out, hT.out⟩⟩
end Go.Proofs.Ytppodbijdhcclaa

/- New and Get of the cache. No condition. -/
namespace Go.Proofs.Ytppodbijdhcclaa
open Go Go.RowKit Go.Maps
set_option maxRecDepth 100000 in
set_option maxHeartbeats 4000000 in
theorem new_any (s : Nat) (w : World) :
    Calls Try.prog 15 #[.iface 26 (.pointer (some ⟨s, 0, none⟩))] w fun e w' => ∃ q m, e = .returned (.pointer (some ⟨q, 0, none⟩)) ∧ w.heap.size ≤ q ∧ w.heap.size ≤ m ∧ Cc w' q m s ∧ w'.ownsMap Try.prog 3 chR m 0 (.map []) ∧ Below w.heap.size w w' := by
  have M0 := Lib.hid (World.ownsMap_made w Try.prog 3 chR)
  have B0 := Lib.hid ((Below.refl w.heap.size w).alloc (Nat.le_refl _) (.map #[] 0))
  have hmm := @run_makeMap Try.prog
  have hC : Blk ((w.alloc (.map #[] 0)).alloc (.cells #[.iface 26 (.pointer (some ⟨s, 0, none⟩)), .map (some w.heap.size)] 89)) (w.alloc (.map #[] 0)).heap.size 89 [.iface 26 (.pointer (some ⟨s, 0, none⟩)), .map (some w.heap.size)] := heap_alloc_new _ _
  rw [World.size_alloc] at hC
  have HC := Lib.hid hC
  clear hC
  go_enter Try.func15, Try.ntmps15
  go_wp2_with fail
  go_ret
  exact ⟨w.heap.size + 1, w.heap.size, rfl, Nat.le_succ _, Nat.le_refl _, HC.out, M0.out.alloc _, B0.out.alloc B0.out.size _⟩
theorem zeroC (w : World) : (zeroValue 46).run Try.prog w = .ok (cval ⟨0, false, none, 0, 0⟩) w := by kernel_rfl
set_option maxRecDepth 100000 in
set_option maxHeartbeats 4000000 in
/-- a node that was changed -/
theorem get_own (q m s N : Nat) (f : Int → Option CV) (D : DataW Value) (k : Int) (x : CV) (l : List UInt8) (w : World) (hq : Cc w q m s) (hm : w.ownsMap Try.prog 3 chR m N D) (hf : MpD D f) (hx : f k = some x) (hl : Bytes w w.heap.size (.slice x.A x.n x.c) l) (hl2 : l.length ≤ 100000) :
    Calls Try.prog 22 #[.pointer (some ⟨q, 0, none⟩), .int .i64 k] w fun e w' => Below w.heap.size w w' ∧ if x.g then e = .returned (.tuple #[.slice none 0 0, .int .i64 61]) else ∃ A c, e = .returned (.tuple #[.slice A l.length c, .int .i64 0]) ∧ Own 5 w' w.heap.size (.slice A l.length c) l := by
  have q1 : w.cell? ⟨q, 1, none⟩ = some (.map (some m)) := Blk.cell hq 1
  have M0 := Lib.hid hm
  have HK := Lib.hid (hf k)
  obtain ⟨h1, h2⟩ := hf k
  have HW := Lib.hid (wfC (h2 x hx).1.2)
  obtain ⟨v, ps, hrun, hv⟩ := hm.look_ok cKey Try.underlying87 (zeroC w) (chR_mk _) (keyC HW.out)
  rw [(h2 x hx).2] at hv
  rw [h1, hx] at hrun
  obtain ⟨y, rfl⟩ := chR_inv _ _ hv
  rw [chR_mk] at hv
  have hyx : cval y = cval x := by
    have := congrArg Prod.fst (Option.some.inj hv)
    exact DataW.held.inj this
  rw [hyx] at hrun
  obtain ⟨xk, xg, xA, xn, xc⟩ := x
  have HL := Lib.hid hl
  have HLL : Hid (l.length = xn) := Lib.hid (by obtain ⟨_, _, e, _⟩ := id hl; simp only [Value.slice.injEq] at e; exact e.2.1.symm)
  simp only [cval, Option.isSome_some] at hrun
  have B0 := Lib.hid ((Below.refl w.heap.size w).alloc (Nat.le_refl _) (.cells #[.int .i64 xk, .bool xg, .slice xA xn xc] 46))
  have X0 := Lib.hid (Blk.new3c w (.int .i64 xk) (.bool xg) (.slice xA xn xc) 46)
  have x1 := X0.out.cell 1
  have x2 := X0.out.cell 2
  simp only [List.getElem?_cons_succ, List.getElem?_cons_zero] at x1 x2 HL
  clear hq hm hf hx hl h1 h2 hv hyx y HK M0
  go_enter Try.func22, Try.ntmps22
  cases xg with
  | true =>
    go_wp2_with fail
    go_ret2
    exact ⟨B0.out, rfl⟩
  | false =>
    have KC := Lib.hid (bclone_any (.slice xA xn xc) l _ ((HL.out.below B0.out).more B0.out.size) hl2)
    go_wp2_with ((with_reducible refine KC.out.mono ?_); rintro e w3 ⟨A3, c3, rfl, O3, b3⟩; have HO := Lib.hid O3; have HB := Lib.hid b3; clear KC O3 b3)
    go_ret2
    exact ⟨B0.out.trans (HB.out.mono B0.out.size), A3, c3, rfl, HO.out.lower B0.out.size⟩
end Go.Proofs.Ytppodbijdhcclaa

/- A cache's state, plainly: what lies in memory, and what the contracts of New, Put, Live tell of it. No condition. -/
namespace Go.Proofs.Ytppodbijdhcclaa
open Go Go.RowKit Go.Maps
/-- where a cache lies, and what its source is -/
structure CI where
  q : Nat
  m : Nat
  s : Nat
  bs : List ByteArray
  th : List Bool
  mo : Int
/-- a cache over its source: P tells what was changed; the blocks of S hold the bodies; the map was changed at most N times -/
def CAt (w : World) (i : CI) (N : Nat) (P : Int → Option CE) (S : Nat → Prop) : Prop :=
  Cc w i.q i.m i.s ∧ Src w i.s i.bs i.th i.mo ∧ (∀ b, S b → b ≠ i.m ∧ b < w.heap.size) ∧ ∃ N0 D f, N0 ≤ N ∧ w.ownsMap Try.prog 3 chR i.m N0 D ∧ MpD D f ∧ Tells w S f P
def liveP (th : List Bool) (P : Int → Option CE) (z : Int) : Bool := match P z with | some e => !e.gone | none => decide (0 ≤ z ∧ z < 256) && th.getD z.toNat false
def cntP (g : Int → Bool) : Nat := ((List.range 256).filter (fun (k : Nat) => g ((k : Nat) : Int))).length
theorem lhas_srcTo (th : List Bool) : ∀ k, k ≤ 256 → ∀ z, lhas (srcTo th k) z = (decide (0 ≤ z ∧ z < (k : Int)) && th.getD z.toNat false)
  | 0, _, z => by
    show lhas lzeros z = _
    have h : lhas lzeros z = false := by
      unfold lhas hasB
      have : (lzeros.getD (z.toNat / 8) 0) = 0 := by
        rw [List.getD_eq_getElem?_getD]
        unfold lzeros
        rw [List.getElem?_replicate]
        split <;> rfl
      rw [this]
      simp
    rw [h, decide_eq_false (by omega), Bool.false_and]
  | k + 1, hk, z => by
    show lhas (lput (srcTo th k) (th.getD k false) (k : Int)) z = _
    rw [lhas_lput (srcTo_length th k), lhas_srcTo th k (by omega) z]
    by_cases e : z = (k : Int)
    · subst e
      rw [if_pos ⟨rfl, by omega, by omega⟩, decide_eq_true (by omega), Bool.true_and]
      rfl
    · rw [if_neg (fun h => e h.1)]
      congr 1
      by_cases h : 0 ≤ z ∧ z < (k : Int)
      · rw [decide_eq_true h, decide_eq_true (by omega)]
      · rw [decide_eq_false h, decide_eq_false (by omega)]
theorem cntL_cntP {M : List UInt8} {g : Int → Bool} (h : ∀ z, lhas M z = g z) : cntL M = cntP g := by
  unfold cntL cntP keysTo
  rw [List.filter_congr (fun k hk => by rw [← lhas_nat M (by simpa using hk), h])]
theorem cntP_congr {g h : Int → Bool} (e : ∀ k : Nat, k < 256 → g (k : Int) = h (k : Int)) : cntP g = cntP h := by
  unfold cntP
  rw [List.filter_congr (fun k hk => e k (by simpa using hk))]
theorem liveF_liveP {w : World} {S : Nat → Prop} {f : Int → Option CV} {P : Int → Option CE} (th : List Bool) (h : Tells w S f P) (z : Int) : liveF f (srcTo th 256) z = liveP th P z := by
  have h1 := (h z).1
  unfold liveF liveP
  rw [lhas_srcTo th 256 (Nat.le_refl _) z]
  cases hf : f z with
  | none =>
    rw [hf] at h1
    cases hp : P z with
    | none => rfl
    | some e => rw [hp] at h1; cases h1
  | some x =>
    rw [hf] at h1
    cases hp : P z with
    | none => rw [hp] at h1; cases h1
    | some e =>
      rw [hp] at h1
      simp only [Option.map_some, Option.some.injEq] at h1
      simp only [h1]
section
variable {w w' : World} {i : CI} {N : Nat} {P : Int → Option CE} {S : Nat → Prop}
theorem CAt.cc (h : CAt w i N P S) : Cc w i.q i.m i.s := h.1
theorem CAt.src (h : CAt w i N P S) : Src w i.s i.bs i.th i.mo := h.2.1
theorem CAt.lt (h : CAt w i N P S) : i.q < w.heap.size ∧ i.m < w.heap.size ∧ i.s < w.heap.size ∧ i.q ≠ i.m ∧ i.s ≠ i.m := by
  obtain ⟨h1, h2, _, N0, D, f, _, h3, _⟩ := h
  exact ⟨Blk.lt h1, h3.lt, h2.lt, neMap h1 h3, neMap h2.1 h3⟩
/-- what a cache says stays, while none of its blocks is written -/
theorem CAt.grown {row : Option Nat} (h : CAt w i N P S) (g : w.grownBy w' row) (h1 : some i.q ≠ row) (h2 : some i.s ≠ row) (h3 : some i.m ≠ row) (h4 : ∀ b, S b → some b ≠ row) : CAt w' i N P S := by
  obtain ⟨a1, a2, a3, N0, D, f, a4, a5, a6, a7⟩ := h
  exact ⟨Blk.grown a1 g h1, a2.grown g h2, fun b hb => ⟨(a3 b hb).1, Nat.lt_of_lt_of_le (a3 b hb).2 g.size⟩, N0, D, f, a4, a5.kept g h3, a6, a7.grown g h4⟩
theorem CAt.after (h : CAt w i N P S) (hb : Below w.heap.size w w') : CAt w' i N P S := h.grown (only_of_below hb none) (by simp) (by simp) (by simp) (by simp)
theorem CAt.alloc (h : CAt w i N P S) (o : Obj) : CAt (w.alloc o) i N P S := h.after ((Below.refl _ _).alloc (Nat.le_refl _) o)
theorem CAt.drew (h : CAt w i N P S) : CAt w.drew i N P S := h.grown ⟨rfl, rfl, rfl, Nat.le_refl _, fun _ _ _ => rfl⟩ (row := none) (by simp) (by simp) (by simp) (by simp)
/-- a block that is none of the cache's -/
def CI.free (i : CI) (S : Nat → Prop) (g : Nat) : Prop := i.q ≠ g ∧ i.s ≠ g ∧ i.m ≠ g ∧ ¬ S g
theorem CAt.other {g : Nat} (h : CAt w i N P S) (hg : w.grownBy w' (some g)) (hf : i.free S g) : CAt w' i N P S :=
  h.grown hg (by simp only [ne_eq, Option.some.injEq]; exact hf.1) (by simp only [ne_eq, Option.some.injEq]; exact hf.2.1) (by simp only [ne_eq, Option.some.injEq]; exact hf.2.2.1) (fun b hb e => by cases e; exact hf.2.2.2 hb)
theorem CAt.free (h : CAt w i N P S) {g : Nat} (hg : w.heap.size ≤ g) : i.free S g := by
  obtain ⟨a, b, c, _, _⟩ := h.lt
  exact ⟨by omega, by omega, by omega, fun hs => by have := (h.2.2.1 g hs).2; omega⟩
theorem CAt.more {N' : Nat} (h : CAt w i N P S) (hn : N ≤ N') : CAt w i N' P S := by
  obtain ⟨a1, a2, a3, N0, D, f, a4, a5⟩ := h
  exact ⟨a1, a2, a3, N0, D, f, by omega, a5⟩
theorem CAt.congr {P' : Int → Option CE} (h : CAt w i N P S) (e : ∀ z, P z = P' z) : CAt w i N P' S := by
  have : P = P' := funext e
  subst this
  exact h
theorem bytesS_cut {v : Value} {l : List UInt8} (h : BytesS w S v l) : BytesS w (fun b => S b ∧ b < w.heap.size) v l := by
  obtain ⟨A, c, h1, h2, h3, h4⟩ := h
  refine ⟨A, c, h1, h2, h3, fun j u hu => ?_⟩
  obtain ⟨a, e, hS, hc⟩ := h4 j u hu
  refine ⟨a, e, ⟨hS, ?_⟩, hc⟩
  have := World.block_lt_of_cell? w _ hc
  rwa [add_block] at this
end
/-- New -/
theorem new_cat (s : Nat) (bs : List ByteArray) (th : List Bool) (mo : Int) (w : World) (hs : Src w s bs th mo) :
    Calls Try.prog 15 #[.iface 26 (.pointer (some ⟨s, 0, none⟩))] w fun e w' => ∃ q m, e = .returned (.pointer (some ⟨q, 0, none⟩)) ∧ w.heap.size ≤ q ∧ w.heap.size ≤ m ∧ CAt w' ⟨q, m, s, bs, th, mo⟩ 0 (fun _ => none) (fun _ => False) ∧ Below w.heap.size w w' := by
  refine (new_any s w).mono ?_
  rintro e w' ⟨q, m, rfl, hq, hm, h1, h2, h3⟩
  exact ⟨q, m, rfl, hq, hm, ⟨h1, hs.after h3, fun b h => h.elim, 0, _, _, Nat.le_refl _, h2, MpD.start, fun z => ⟨rfl, fun x e h => by cases h⟩⟩, h3⟩
/-- what the changes come to, plainly -/
def behP (th : List Bool) (P : Int → Option CE) (cs : List CV) (ls : List (List UInt8)) : Int → Bool := liveP th (putTo P cs ls cs.length)
theorem behL_snoc (M : List UInt8) (cs : List CV) {k : Nat} {x : CV} (h : cs[k]? = some x) : behL M (cs.take (k + 1)) = lput (behL M (cs.take k)) (!x.g) x.k := behL_take M h
theorem rightC_keys {cs : List CV} (h : rightC lzeros cs = true) {k : Nat} {x : CV} (hx : cs[k]? = some x) : (0 ≤ x.k ∧ x.k < 256) ∧ x.n ≤ 224 := rightC_key cs lzeros h k x hx
theorem lhas_behL (th : List Bool) (P : Int → Option CE) (M : List UInt8) (hM : M.length = 32) (cs : List CV) (ls : List (List UInt8)) (hm : ∀ z, lhas M z = liveP th P z) (hr : ∀ (k : Nat) (x : CV), cs[k]? = some x → 0 ≤ x.k ∧ x.k < 256) :
    ∀ k, k ≤ cs.length → ∀ z, lhas (behL M (cs.take k)) z = liveP th (putTo P cs ls k) z
  | 0, _, z => by rw [List.take_zero]; exact hm z
  | k + 1, hk, z => by
    obtain ⟨x, hx⟩ : ∃ x, cs[k]? = some x := ⟨_, List.getElem?_eq_getElem hk⟩
    have hx2 := hr k x hx
    rw [behL_take M hx, lhas_lput (by rw [behL_length]; exact hM), lhas_behL th P M hM cs ls hm hr k (by omega) z]
    show _ = liveP th (putP (putTo P cs ls k) (cs.getD k _).k (cs.getD k _).g (ls.getD k [])) z
    rw [List.getD_eq_getElem?_getD, hx, Option.getD_some]
    unfold liveP putP
    by_cases e : z = x.k
    · rw [if_pos ⟨e, hx2⟩, if_pos e]
    · rw [if_neg (fun h => e h.1), if_neg e]
def noSpace (i : CI) (P : Int → Option CE) (cs : List CV) (ls : List (List UInt8)) : Prop := i.mo < (cntP (behP i.th P cs ls) : Int) ∧ cntP (liveP i.th P) < cntP (behP i.th P cs ls)
/-- Put, in its three ways -/
theorem put_cat (i : CI) (N : Nat) (P : Int → Option CE) (S : Nat → Prop) (v : Value) (cs : List CV) (ls : List (List UInt8)) (w : World) (h : CAt w i N P S) (hc : Chs w w.heap.size v cs) (hl : BodL w w.heap.size cs ls) (hz : cs.length ≤ 1000) (hN : N ≤ 1000000) :
    Calls Try.prog 19 #[.pointer (some ⟨i.q, 0, none⟩), v] w fun e w' =>
      (rightC lzeros cs = false ∧ e = .returned (.int .i64 1) ∧ Below w.heap.size w w') ∨
      (rightC lzeros cs = true ∧ noSpace i P cs ls ∧ e = .returned (.int .i64 40) ∧ Below w.heap.size w w') ∨
      (rightC lzeros cs = true ∧ ¬ noSpace i P cs ls ∧ e = .returned (.int .i64 0) ∧ w.grownBy w' (some i.m) ∧ CAt w' i (N + cs.length) (putTo P cs ls cs.length) (fun b => S b ∨ (w.heap.size ≤ b ∧ b < w'.heap.size))) := by
  obtain ⟨a1, a2, a3, N0, D, f, a4, a5, a6, a7⟩ := id h
  refine (put_any i.q i.m i.s N0 f D S P i.bs i.th i.mo v cs ls w a1 a2 a5 a6 a7 (fun b hb => (a3 b hb).1) hc hl hz (by omega)).mono ?_
  rintro e w' (⟨h1, h2, h3⟩ | ⟨h1, M, hM, hm, h2⟩)
  · exact .inl ⟨h1, h2, h3⟩
  · have hm' : ∀ z, lhas M z = liveP i.th P z := fun z => by rw [hm z, liveF_liveP i.th a7]
    have hb := lhas_behL i.th P M hM cs ls hm' (fun k x hx => (rightC_keys h1 hx).1) cs.length (Nat.le_refl _)
    rw [List.take_of_length_le (Nat.le_refl _)] at hb
    have e1 : cntL M = cntP (liveP i.th P) := cntL_cntP hm'
    have e2 : cntL (behL M cs) = cntP (behP i.th P cs ls) := cntL_cntP hb
    rw [e1, e2] at h2
    rcases h2 with ⟨b1, b2, b3⟩ | ⟨b1, b2, b3, f2, D2, b4, b5, b6⟩
    · exact .inr (.inl ⟨h1, b1, b2, b3⟩)
    · obtain ⟨c1, c2, c3, c4, c5⟩ := h.lt
      refine .inr (.inr ⟨h1, b1, b2, b3, Blk.grown a1 b3 (by simp only [ne_eq, Option.some.injEq]; exact c4), a2.grown b3 (by simp only [ne_eq, Option.some.injEq]; exact c5), fun b hb => ?_, N0 + cs.length, D2, f2, by omega, b4, b5, fun z => ⟨(b6 z).1, fun x e hx he => (bytesS_cut ((b6 z).2 x e hx he)).more (fun b hb => ?_)⟩⟩)
      · rcases hb with hb | hb
        · exact ⟨(a3 b hb).1, Nat.lt_of_lt_of_le (a3 b hb).2 b3.size⟩
        · exact ⟨by omega, hb.2⟩
      · rcases hb.1 with h5 | h5
        · exact .inl h5
        · exact .inr ⟨h5, hb.2⟩
/-- Live -/
theorem live_cat (i : CI) (N : Nat) (P : Int → Option CE) (S : Nat → Prop) (w : World) (h : CAt w i N P S) :
    Calls Try.prog 23 #[.pointer (some ⟨i.q, 0, none⟩)] w fun e w' => ∃ M, M.length = 32 ∧ e = .returned (.agg (cl M)) ∧ (∀ z, lhas M z = liveP i.th P z) ∧ Below w.heap.size w w' := by
  obtain ⟨a1, a2, a3, N0, D, f, a4, a5, a6, a7⟩ := id h
  refine (clive_any i.q i.m i.s N0 f D i.bs i.th i.mo w a1 a2 a5 a6).mono ?_
  rintro e w' ⟨M, h1, h2, h3, h4⟩
  exact ⟨M, h1, h2, fun z => by rw [h3 z]; exact liveF_liveP i.th a7 z, h4⟩
end Go.Proofs.Ytppodbijdhcclaa

/- Changes of the cache where none counts: what was changed is gone, and wasn't there. No condition. -/
namespace Go.Proofs.Ytppodbijdhcclaa
open Go Go.RowKit Go.Maps
theorem look_some {w : World} {m N : Nat} {D : DataW Value} {f : Int → Option CV} (hm : w.ownsMap Try.prog 3 chR m N D) (hf : MpD D f) {k : Int} {x : CV} (hx : f k = some x) :
    (Instr.lookup 87 (.map (some m)) (.int .i64 k) true).run Try.prog w = .ok (.tuple #[.agg #[.int .i64 x.k, .bool x.g, .slice x.A x.n x.c], .bool true]) w := by
  obtain ⟨h1, h2⟩ := hf k
  obtain ⟨v, ps, hrun, hv⟩ := hm.look_ok cKey Try.underlying87 (zeroC w) (chR_mk _) (keyC (wfC (h2 x hx).1.2))
  rw [(h2 x hx).2] at hv
  rw [h1, hx] at hrun
  obtain ⟨y, rfl⟩ := chR_inv _ _ hv
  rw [chR_mk] at hv
  have hyx : cval y = cval x := DataW.held.inj (congrArg Prod.fst (Option.some.inj hv))
  rw [hyx] at hrun
  exact hrun
theorem look_none {w : World} {m N : Nat} {D : DataW Value} {f : Int → Option CV} (hm : w.ownsMap Try.prog 3 chR m N D) (hf : MpD D f) {k : Int} (hk : (Lit.int .i64 k).wf = true) (hx : f k = none) :
    (Instr.lookup 87 (.map (some m)) (.int .i64 k) true).run Try.prog w = .ok (.tuple #[.agg #[.int .i64 0, .bool false, .slice none 0 0], .bool false]) w := by
  have h1 := (hf k).1
  rw [hx] at h1
  obtain ⟨v, ps, hrun, hv⟩ := hm.look_ok cKey Try.underlying87 (zeroC w) (chR_mk _) (keyC hk)
  rw [atKey_of_not_has h1] at hv
  rw [h1] at hrun
  obtain ⟨y, rfl⟩ := chR_inv _ _ hv
  rw [chR_mk] at hv
  have hyx : cval y = cval ⟨0, false, none, 0, 0⟩ := DataW.held.inj (congrArg Prod.fst (Option.some.inj hv))
  rw [hyx] at hrun
  exact hrun
set_option maxRecDepth 100000 in
set_option maxHeartbeats 8000000 in
theorem changes_none (q m s N : Nat) (f : Int → Option CV) (D : DataW Value) (bs : List ByteArray) (th : List Bool) (mo : Int) (w : World) (hq : Cc w q m s) (hs : Src w s bs th mo) (hm : w.ownsMap Try.prog 3 chR m N D) (hf : MpD D f)
    (hg : ∀ z x, f z = some x → x.g = true ∧ lhas (srcTo th 256) z = false) :
    Calls Try.prog 24 #[.pointer (some ⟨q, 0, none⟩)] w fun e w' => e = .returned (.slice none 0 0) ∧ Below w.heap.size w w' := by
  have z0 := zeroLive
  have Q0 := Lib.hid (show Blk w q 89 [.iface 26 (.pointer (some ⟨s, 0, none⟩)), .map (some m)] from hq)
  have M0 := Lib.hid hm
  have HF := Lib.hid hf
  have HG := Lib.hid hg
  have KL := Lib.hid (nlive_any s bs th mo w hs)
  obtain ⟨L0, hL0⟩ : ∃ L0, L0 = srcTo th 256 := ⟨_, rfl⟩
  have HL0 : Hid (L0.length = 32) := Lib.hid (by rw [hL0]; exact srcTo_length th 256)
  rw [← hL0] at KL HG
  have q0 := Blk.cell hq 0
  simp only [List.getElem?_cons_zero] at q0
  have ml := meth_live
  clear hq hs hm hf hL0 hg
  go_enter Try.func24, Try.ntmps24
  go_upto_region 3 with (first
    | ((with_reducible refine KL.out.mono ?_); rintro e w1 ⟨rfl, b1⟩; have H1 := Lib.hid b1; have A1 := Lib.hid (LArr.new w1 lzeros_length); clear KL b1 ml q0)
    | (with_reducible refine wpl_lstore (.tmp 4) (.tmp 12) rfl rfl A1.out rfl HL0.out rfl ?_; intro w3 A3' g3 e3; have A3 := Lib.hid A3'; have H3 := Lib.hid ((H1.out.alloc H1.out.size (.cells (cl lzeros) 53)).grown g3 (Nat.le_trans H1.out.size (by simp)) (fun k e => by cases e; exact H1.out.size)); clear A3' g3 e3 A1))
  obtain ⟨gv, hgv⟩ : ∃ gv, gv = w1.heap.size := ⟨_, rfl⟩
  rw [← hgv] at A3 ⊢
  clear hgv H1
  go_wp2_with fail
  go_loopw [3, 13] (fun l i wr => ∃ k : Nat, k ≤ 256 ∧ l = .slice none 0 0 ∧ i = .int .i64 k ∧ Hid (LArr wr gv L0) ∧ Hid (Below w.heap.size w wr)) (fun _ i _ => 256 - (intOf i).toNat)
  case atStart => exact ⟨0, Nat.zero_le _, rfl, rfl, A3, H3⟩
  case round =>
    clear A3 H3
    rename_i wr
    obtain ⟨k, hk, rfl, rfl, hA, hb⟩ := hrel
    have q1 : wr.cell? ⟨q, 1, none⟩ = some (.map (some m)) := (Q0.out.below hb.out Q0.out.lt).cell 1
    have MR := M0.out.kept (only_of_below hb.out none) (by simp)
    by_cases hlt : k < 256
    · have d1 : decide ((k : Int) < 256) = true := by simp; omega
      cases hfk : f (k : Int) with
      | none =>
        have hrun := look_none MR HF.out (wfC ⟨by omega, by omega⟩) hfk
        clear MR hfk
        go_wp2_with fail
        exact ⟨⟨k + 1, by omega, rfl, by go_num, Lib.hid (hA.out.alloc _), Lib.hid (hb.out.alloc hb.out.size _)⟩, by simp [intOf]; omega⟩
      | some x =>
        have hrun := look_some MR HF.out hfk
        have hxg := HG.out _ _ hfk
        rw [hxg.1] at hrun
        have A2 := Lib.hid (hA.out.alloc (.cells #[.int .i64 x.k, .bool true, .slice x.A x.n x.c] 46))
        have H2 := Lib.hid (hb.out.alloc hb.out.size (.cells #[.int .i64 x.k, .bool true, .slice x.A x.n x.c] 46))
        have x1 := (Blk.new3c wr (.int .i64 x.k) (.bool true) (.slice x.A x.n x.c) 46).cell 1
        simp only [List.getElem?_cons_succ, List.getElem?_cons_zero] at x1
        have KH := Lib.hid (has_any L0 HL0.out (k : Int) (wr.alloc (.cells #[.int .i64 x.k, .bool true, .slice x.A x.n x.c] 46)))
        rw [hxg.2] at KH
        clear MR hfk hxg hA hb
        go_wp2_with (first
          | (with_reducible refine wpl_lload (.tmp 4) rfl rfl A2.out rfl ?_)
          | ((with_reducible refine KH.out.mono ?_); rintro e w4 ⟨rfl, b4⟩; have A4 := Lib.hid (A2.out.after b4); have H4 := Lib.hid (H2.out.trans (b4.mono H2.out.size)); clear KH b4))
        exact ⟨⟨k + 1, by omega, rfl, by go_num, A4, H4⟩, by simp [intOf]; omega⟩
    · obtain rfl : k = 256 := by omega
      clear MR
      go_wp2_with fail
      go_ret
      exact ⟨rfl, hb.out⟩
end Go.Proofs.Ytppodbijdhcclaa

