/- same of layer 19: a cache that is the document's. No condition. -/
import Derived.Test.YtppodbijdhcclaaQRefChg
import Derived.Test.YtppodbijdhcclaaQLiveRef
import Derived.WalkSmall
namespace Go.Proofs.Ytppodbijdhcclaa
open Go Go.RowKit Go.Maps
/-- a list of changes of which the bodies from j on are as they were -/
structure ChFrom (w : World) (base : Nat) (v : Value) (cs : List CV) (ls : List (List UInt8)) (j : Nat) : Prop where
  row : w.ownsRow base 46 3 v cs.length (cs.flatMap crow)
  free : ChFree w base v cs
  bods : ∀ (i : Nat) (x : CV), j ≤ i → cs[i]? = some x → BytesS w (fun b => ∃ a, x.A = some a ∧ b = a.block) (.slice x.A x.n x.c) (ls.getD i [])
section
variable {w w' : World} {base : Nat} {v : Value} {cs : List CV} {ls : List (List UInt8)} {j : Nat}
theorem bytesS_self {S : Nat → Prop} {A : Option Addr} {n c : Nat} {l : List UInt8} (h : BytesS w S (.slice A n c) l) : BytesS w (fun b => ∃ a, A = some a ∧ b = a.block) (.slice A n c) l := by
  obtain ⟨A', c', e, h1, h2, h3⟩ := h
  obtain ⟨rfl, _, rfl⟩ := Value.slice.inj e
  exact ⟨A, c, e, h1, h2, fun i u hu => by obtain ⟨a, ea, _, hc⟩ := h3 i u hu; exact ⟨a, ea, ⟨a, ea, rfl⟩, hc⟩⟩
theorem ChOwn.from (h : ChOwn w base v cs ls) (hf : ChFree w base v cs) : ChFrom w base v cs ls 0 := ⟨h.row, hf, fun i x _ hx => bytesS_self (h.bods i x hx)⟩
theorem ChFrom.next (h : ChFrom w base v cs ls j) : ChFrom w base v cs ls (j + 1) := ⟨h.row, h.free, fun i x hi hx => h.bods i x (by omega) hx⟩
theorem ChFrom.below (h : ChFrom w base v cs ls j) (hb : Below w.heap.size w w') : ChFrom w' base v cs ls j :=
  ⟨World.ownsRow.kept h.row (only_of_below hb none) (by cases v.ownBlock <;> simp), h.free.below hb, fun i x hi hx => (h.bods i x hi hx).grown (only_of_below hb none) (by simp)⟩
/-- a byte of the body j is written -/
theorem ChFrom.write {x : CV} {a : Addr} {u : Value} (h : ChFrom w base v cs ls (j + 1)) (hx : cs[j]? = some x) (ha : x.A = some a) (k : Nat) : ChFrom (w.setCell (a.add k) u) base v cs ls (j + 1) := by
  have h1 := (h.free.one x (List.mem_of_getElem? hx) a ha).1
  have s := only_set w (a.add k) u
  rw [add_block] at s
  refine ⟨World.ownsRow.kept h.row s (.inr h1.2.2), ⟨fun y hy b hb => ?_, h.free.dis⟩, fun i y hi hy => (h.bods i y hi hy).grown s (fun b hb e => ?_)⟩
  · have h2 := h.free.one y hy b hb
    exact ⟨⟨h2.1.1, Nat.lt_of_lt_of_le h2.1.2.1 s.size, h2.1.2.2⟩, fun i => by rw [World.frozen?_setCell]; exact h2.2 i⟩
  · obtain ⟨d, hd, rfl⟩ := hb
    have hp := (List.pairwise_iff_getElem.1 h.free.dis) j i (get_lt hx) (get_lt hy) (by omega)
    rw [(List.getElem?_eq_some_iff.1 hx).2, (List.getElem?_eq_some_iff.1 hy).2] at hp
    exact hp a d ha hd (Option.some.inj e).symm
theorem yields_strC {ops : Array Oper} {o : Oper} {a : Act} {S : World → Prop} {v : Value} {l : List UInt8} (x : Operand) (ho : o.op = .convert 44 9 x) (hgd : Region.wanted o (yielded ops a.tmps) = true)
    (hx : a.eval x = v) (hS : ∀ w, S w → Bytes w w.heap.size v l) : YieldsIf Try.prog ops S o (.string ⟨l.toArray⟩) a :=
  .inl ⟨hgd, fun w hw => by
    unfold execOp
    simp only [ho, hx, Sem.run_bind, Sem.run_pure, Result.andThen_ok, run_str (st := 9) byteTys Try.underlying5 Try.underlying9 (hS w hw)]⟩
/-- so many bytes may be written -/
def Wrb (w : World) (a : Addr) (n : Nat) : Prop := ∀ t, t < n → (∃ u, w.cell? (a.add t) = some u) ∧ w.frozen? (a.add t) = false
theorem Wrb.write {a : Addr} {n : Nat} (h : Wrb w a n) (k : Nat) (u : Value) : Wrb (w.setCell (a.add k) u) a n := fun t ht => by
  obtain ⟨⟨x, hx⟩, hf⟩ := h t ht
  exact ⟨cell?_setCell_some hx, by rw [World.frozen?_setCell]; exact hf⟩
theorem ChFrom.wrb {x : CV} {a : Addr} (h : ChFrom w base v cs ls j) (hx : cs[j]? = some x) (ha : x.A = some a) : Wrb w a x.n := fun t ht => by
  obtain ⟨A, c, e, _, _, hr⟩ := h.bods j x (Nat.le_refl _) hx
  obtain ⟨rfl, hn, rfl⟩ := Value.slice.inj e
  obtain ⟨a', ea, _, hc⟩ := hr t _ (bv_get (by omega))
  rw [ha] at ea
  cases ea
  exact ⟨⟨_, hc⟩, (h.free.one x (List.mem_of_getElem? hx) a ha).2 t⟩
theorem ChFrom.rows (h : ChFrom w base v cs ls j) : Chs w w.heap.size v cs := by
  have h2 : ChOwn w base v cs (cs.map (fun _ => [])) ∨ True := .inr trivial
  obtain ⟨A, c, rfl⟩ := ownsRow_some h.row
  have hs : cs.length ≤ c ∧ c ≤ maxLen := by
    rcases h.row.2 with ⟨hv, h0⟩ | ⟨g, cap, cur, hv, _, _, hn, hm, _⟩
    · obtain ⟨_, _, rfl⟩ := Value.slice.inj hv; exact ⟨by omega, by simp [maxLen]⟩
    · obtain ⟨_, _, rfl⟩ := Value.slice.inj hv; exact ⟨hn, hm⟩
  refine ⟨A, c, rfl, hs.1, hs.2, fun j u hu => ?_⟩
  have hc : ∀ {g : Nat}, (Value.slice A cs.length c).ownBlock = some g → ∀ j u, (cs.flatMap crow)[j]? = some u → w.cell? ((⟨g, 0, none⟩ : Addr).add j) = some u := fun hg => World.ownsRow.cells h.row hg
  have hlt := h.row.lt
  rcases h.row.2 with ⟨hv, h0⟩ | ⟨g, cap, cur, hv, _, _, _, _⟩
  · have hx := h.row.1
    have : cs.flatMap crow = [] := List.eq_nil_of_length_eq_zero (by rw [hx, h0])
    rw [this] at hu
    simp at hu
  · obtain ⟨rfl, _, _⟩ := Value.slice.inj hv
    exact ⟨_, rfl, (hlt g rfl).2, hc rfl j u hu⟩
end
set_option maxRecDepth 100000 in
set_option maxHeartbeats 32000000 in
theorem same_yes (i : CI) (N : Nat) (P : Int → Option CE) (S : Nat → Prop) (r : Nat) (w : World) (h : CAt w i N P S) (hr : RcP w r i.bs i.th P i.mo) (hsm : i.small) (hP : PGood P) (hG : PGone P) :
    Calls Try.prog 21 #[.pointer (some ⟨i.q, 0, none⟩), .pointer (some ⟨r, 0, none⟩)] w fun e w' => e = .returned (.bool true) ∧ Below w.heap.size w w' := by
  have HC := Lib.hid h
  have HR := Lib.hid hr
  have HP := Lib.hid hP
  have HG := Lib.hid hG
  have HSM := Lib.hid hsm
  have K1 := Lib.hid (changes_free i N P S w h hP.small)
  have K2 : Hid (∀ w1, Below w.heap.size w w1 → Calls Try.prog 41 #[.pointer (some ⟨r, 0, none⟩)] w1 fun e w' => ChgC w1 (chgTo i.th P 256) e w') := Lib.hid (fun w1 hb => refChanges_any r i.bs i.th P i.mo w1 (Rc.after HR.out hb) HP.out HG.out)
  clear h hr hP hG hsm
  obtain ⟨L, hL⟩ : ∃ L, L = chgTo i.th P 256 := ⟨_, rfl⟩
  have HLL : Hid (L.length ≤ 256) := Lib.hid (by rw [hL]; exact chgTo_len _ _ _)
  have HLS : Hid (∀ j, ((L.map chBody).getD j []).length ≤ 224) := Lib.hid (fun j => by
    rw [List.getD_eq_getElem?_getD, List.getElem?_map]
    cases hj : L[j]? with
    | none => simp
    | some y =>
      have h1 := (chgTo_keys i.th P 256).1 y (by rw [← hL]; exact List.mem_of_getElem? hj)
      have h2 := (HP.out _ _ h1.2).2
      show (chBody y).length ≤ 224
      unfold chBody
      split
      · simp
      · exact h2)
  rw [← hL] at K1 K2
  clear hL
  obtain ⟨n, hn⟩ : ∃ n, n = L.length := ⟨_, rfl⟩
  have HNL := Lib.hid hn
  have hn256 : n ≤ 256 := by rw [hn]; exact HLL.out
  clear hn
  obtain ⟨q, hq⟩ : ∃ q, q = i.q := ⟨_, rfl⟩
  have HQ := Lib.hid hq
  rw [← hq] at K1 ⊢
  clear hq
  go_enter Try.func21, Try.ntmps21
  go_upto_region 2 with (first
    | ((with_reducible refine K1.out.mono ?_); rintro e w1 ⟨v1, cs1, rfl, o1, f1, k1, b1⟩; have O1 := Lib.hid o1; have F1 := Lib.hid f1; have KG1 := Lib.hid k1; have B1 := Lib.hid b1; obtain ⟨A1, c1, hv1⟩ := ownsRow_some o1.row; have hl1 : cs1.length = n := (by rw [HNL.out, ← List.length_map (f := kg), k1, List.length_map]); rw [hl1] at hv1; subst hv1; have HL1 := Lib.hid hl1; have K2' := Lib.hid (K2.out w1 b1); clear K1 K2 o1 f1 k1 b1 hl1)
    | ((with_reducible refine K2'.out.mono ?_); rintro e w2 ⟨v2, cs2, rfl, o2, k2, b2⟩; have O2 := Lib.hid o2; have KG2 := Lib.hid k2; have B2 := Lib.hid b2; obtain ⟨A2, c2, hv2⟩ := ownsRow_some o2.row; have hl2 : cs2.length = n := (by rw [HNL.out, ← List.length_map (f := kg), k2, List.length_map]); rw [hl2] at hv2; subst hv2; have HL2 := Lib.hid hl2; clear K2' o2 k2 b2 hl2))
  have FR2 := Lib.hid (ChFrom.below (ChOwn.from O1.out F1.out) B2.out)
  have T2 := Lib.hid (B1.out.trans (B2.out.mono B1.out.size))
  have HW1 := Lib.hid B1.out.size
  have HFL1 : Hid (∀ x ∈ cs1, ∀ a, x.A = some a → a.block < w1.heap.size) := Lib.hid (fun x hx a ha => (F1.out.one x hx a ha).1.2.1)
  clear B1 B2 O1 F1
  obtain ⟨ls, hls⟩ : ∃ ls, ls = L.map chBody := ⟨_, rfl⟩
  rw [← hls] at O2 FR2 HLS
  have HKG := Lib.hid (KG1.out.trans KG2.out.symm)
  clear hls KG1 KG2
  go_upto_region 5 with fail
  go_loopw [26] (fun z wr => ∃ j : Nat, j ≤ n ∧ z = .int .i64 j ∧ Hid (ChFrom wr w.heap.size (.slice A1 n c1) cs1 ls j) ∧ Hid (ChOwn wr w1.heap.size (.slice A2 n c2) cs2 ls) ∧ Hid (Below w.heap.size w wr)) (fun z _ => n - (intOf z).toNat)
  case atStart => exact ⟨0, Nat.zero_le _, rfl, FR2, O2, T2⟩
  case round =>
    clear FR2 O2 T2
    rename_i wr
    obtain ⟨j, hj, rfl, hF, hO, hT⟩ := hrel
    by_cases hlt : j < n
    · have d1 : decide ((j : Int) < (n : Int)) = true := by simp; omega
      obtain ⟨x, hx⟩ : ∃ x, cs1[j]? = some x := ⟨_, List.getElem?_eq_getElem (by rw [HL1.out]; exact hlt)⟩
      obtain ⟨y, hy⟩ : ∃ y, cs2[j]? = some y := ⟨_, List.getElem?_eq_getElem (by rw [HL2.out]; exact hlt)⟩
      obtain ⟨a, rfl, hab, hck⟩ := hF.out.rows.elem hx
      obtain ⟨d, rfl, hdb, hdk⟩ := hO.out.rows.elem hy
      have hkg := kg_get HKG.out j
      rw [List.getD_eq_getElem?_getD, List.getD_eq_getElem?_getD, hx, hy, Option.getD_some, Option.getD_some] at hkg
      have hbx := (hF.out.bods j x (Nat.le_refl _) hx)
      have hby := (hO.out.bods j y hy).bytes (B := wr.heap.size) (fun b hb => hb.2.1)
      have hbx2 : Bytes wr wr.heap.size (.slice x.A x.n x.c) (ls.getD j []) := hbx.bytes (fun b hb => by
        obtain ⟨a', ha', rfl⟩ := hb
        exact (hF.out.free.one x (List.mem_of_getElem? hx) a' ha').1.2.1)
      have HX := Lib.hid hx
      obtain ⟨xk, xg, xA, xn, xc⟩ := x
      obtain ⟨yk, yg, yA, yn, yc⟩ := y
      simp only at hkg hbx2 hby
      obtain ⟨rfl, rfl⟩ := hkg
      obtain ⟨l, hl⟩ : ∃ l, l = ls.getD j [] := ⟨_, rfl⟩
      rw [← hl] at hbx2 hby
      have x0 : ∀ m, (wr.drewN m).cell? (a.add (j * 3)) = some (.int .i64 xk) := fun m => by have h1 := hck 0 _ rfl; rw [Addr.add_add, Nat.add_zero] at h1; exact h1
      have x1 : ∀ m, (wr.drewN m).cell? ⟨(a.add (j * 3)).block, (a.add (j * 3)).off + 1, none⟩ = some (.bool xg) := fun m => hck 1 _ rfl
      have x2 : ∀ m, (wr.drewN m).cell? ⟨(a.add (j * 3)).block, (a.add (j * 3)).off + 2, none⟩ = some (.slice xA xn xc) := fun m => hck 2 _ rfl
      have y0 : ∀ m, (wr.drewN m).cell? (d.add (j * 3)) = some (.int .i64 xk) := fun m => by have h1 := hdk 0 _ rfl; rw [Addr.add_add, Nat.add_zero] at h1; exact h1
      have y1 : ∀ m, (wr.drewN m).cell? ⟨(d.add (j * 3)).block, (d.add (j * 3)).off + 1, none⟩ = some (.bool xg) := fun m => hdk 1 _ rfl
      have y2 : ∀ m, (wr.drewN m).cell? ⟨(d.add (j * 3)).block, (d.add (j * 3)).off + 2, none⟩ = some (.slice yA yn yc) := fun m => hdk 2 _ rfl
      have r1 : ∀ m, (convert 44 9 (.slice xA xn xc)).run Try.prog (wr.drewN m) = .ok (.string ⟨l.toArray⟩) (wr.drewN m) := fun m => run_str (st := 9) byteTys Try.underlying5 Try.underlying9 (hbx2.below (below_drewN (Below.refl _ _) m))
      have r2 : ∀ m, (convert 44 9 (.slice yA yn yc)).run Try.prog (wr.drewN m) = .ok (.string ⟨l.toArray⟩) (wr.drewN m) := fun m => run_str (st := 9) byteTys Try.underlying5 Try.underlying9 (hby.below (below_drewN (Below.refl _ _) m))
      have hxn : xn ≤ 224 := by
        obtain ⟨_, _, e, _⟩ := id hbx2
        simp only [Value.slice.injEq] at e
        rw [e.2.1, hl]
        exact HLS.out j
      have HXA : Hid (xA = none → xn = 0) := Lib.hid (fun e => by
        obtain ⟨A', c', e1, _, _, hrr⟩ := hbx2
        simp only [Value.slice.injEq] at e1
        rcases Nat.eq_zero_or_pos xn with h0 | h0
        · exact h0
        · obtain ⟨a', ea, _⟩ := hrr 0 _ (bv_get (by omega))
          rw [← e1.1, e] at ea
          cases ea)
      clear hck hdk hbx hbx2 hby hl hx hy
      go_wp2_with fail
      go_quiet (fail)
      have BN := Lib.hid (below_drewN (Below.refl wr.heap.size wr) nq)
      obtain ⟨W0, hW0⟩ : ∃ W0, W0 = wr.drewN nq := ⟨_, rfl⟩
      have e0 : W0.cell? (a.add (j * 3)) = some (.int .i64 xk) := by rw [hW0]; exact x0 nq
      have e2 : W0.cell? ⟨(a.add (j * 3)).block, (a.add (j * 3)).off + 2, none⟩ = some (.slice xA xn xc) := by rw [hW0]; exact x2 nq
      rw [← hW0] at BN ⊢
      have F0 := Lib.hid ((hF.out.below BN.out))
      have O0 := Lib.hid (hO.out.below BN.out)
      have T0 := Lib.hid (hT.out.trans (BN.out.mono hT.out.size))
      clear x0 x1 x2 y0 y1 y2 r1 r2 BN hW0 hF hO hT
      go_upto_region 10 with fail
      have F1 := Lib.hid F0.out.next
      have HWR : Hid (∀ a', xA = some a' → Wrb W0 a' xn ∧ a'.block < w1.heap.size ∧ w.heap.size ≤ a'.block) := Lib.hid (fun a' ha => ⟨F0.out.wrb HX.out ha, HFL1.out _ (List.mem_of_getElem? HX.out) a' ha, (F0.out.free.one _ (List.mem_of_getElem? HX.out) a' ha).1.1⟩)
      have E2 := Lib.hid e2
      have HRW := Lib.hid (F0.out.rows)
      clear F0 e0 e2
      go_loopw [74] (fun z wq => ∃ t : Nat, t ≤ xn ∧ z = .int .i64 t ∧ Hid (ChFrom wq w.heap.size (.slice (some a) n c1) cs1 ls (j + 1)) ∧ Hid (∀ a', xA = some a' → Wrb wq a' xn) ∧ Hid (ChOwn wq w1.heap.size (.slice (some d) n c2) cs2 ls) ∧ Hid (Below w.heap.size w wq)) (fun z _ => xn - (intOf z).toNat)
      case atStart => exact ⟨0, Nat.zero_le _, rfl, F1, Lib.hid (fun a' ha => (HWR.out a' ha).1), O0, T0⟩
      case round =>
        clear F1 O0 T0
        obtain ⟨t, ht, rfl, hF, hW, hO, hT⟩ := hrel
        by_cases htl : t < xn
        · have d2 : decide ((t : Int) < (xn : Int)) = true := by simp; omega
          have x2 : wr.cell? ⟨(a.add (j * 3)).block, (a.add (j * 3)).off + 2, none⟩ = some (.slice xA xn xc) := by
            obtain ⟨a2, e2, _, hck⟩ := hF.out.rows.elem HX.out
            cases e2
            exact hck 2 _ rfl
          cases xA with
          | none => exact absurd (HXA.out rfl) (by omega)
          | some ax =>
            obtain ⟨⟨u, hu⟩, hfz⟩ := hW.out ax rfl t htl
            have FW := Lib.hid (hF.out.write (u := .int .u8 238) HX.out rfl t)
            have WW := Lib.hid (fun a' (ha : some ax = some a') => (hW.out a' ha).write (a := a'))
            have hs := only_set wr (ax.add t) (.int .u8 238)
            rw [add_block] at hs
            have OW := Lib.hid (hO.out.other hs (HWR.out ax rfl).2.1)
            have TW := Lib.hid (hT.out.grown hs hT.out.size (fun b e => by cases e; exact (HWR.out ax rfl).2.2))
            have HWW : Hid (∀ a', some ax = some a' → Wrb (wr.setCell (ax.add t) (.int .u8 238)) a' xn) := Lib.hid (fun a' ha => by cases ha; exact (hW.out ax rfl).write t _)
            clear hF hW hO hT hs WW
            go_wp2_with fail
            exact ⟨⟨t + 1, by omega, by go_num, FW, HWW, OW, TW⟩, by simp [intOf]; omega⟩
        · obtain rfl : t = xn := by omega
          have d2 : decide ((t : Int) < (t : Int)) = false := by simp
          go_wp2_with fail
          exact ⟨⟨j + 1, by omega, by go_num, hF, hO, hT⟩, by simp [intOf]; omega⟩
    · obtain rfl : j = n := by omega
      have d1 : decide ((j : Int) < (j : Int)) = false := by simp
      have C3 := Lib.hid (HC.out.after hT.out)
      have z0 := zeroLive
      have KL := Lib.hid (live_cat i N P S wr C3.out)
      rw [← HQ.out] at KL
      obtain ⟨T3, hT3⟩ : ∃ T3, T3 = hT := ⟨_, rfl⟩
      clear hT3 hF hO HKG HLS HFL1
      go_upto_region 16 with (first
        | ((with_reducible refine KL.out.mono ?_); rintro e w14 ⟨ML, hml, rfl, hmz, b14⟩; have HML := Lib.hid hml; have HMZ := Lib.hid hmz; have T14 := Lib.hid (T3.out.trans (b14.mono T3.out.size)); have N14 := Lib.hid (LArr.new w14 lzeros_length); have B14 := Lib.hid ((Below.refl w14.heap.size w14).alloc (Nat.le_refl _) (.cells (cl lzeros) 53)); clear KL hml hmz b14)
        | ((with_reducible refine wpl_lstore (.tmp 9) (.tmp 87) rfl rfl N14.out rfl HML.out rfl ?_); intro w15 N15' g15 e15; have N15 := Lib.hid N15'; have T15 := Lib.hid ((T14.out.trans (B14.out.mono T14.out.size)).grown g15 (Nat.le_trans T14.out.size B14.out.size) (fun b e => by cases e; exact T14.out.size)); have HG9 := Lib.hid T14.out.size; clear N15' g15 e15 N14 B14))
      try simp only [Act.put]
      obtain ⟨g9, hg9⟩ : ∃ g9, g9 = w14.heap.size := ⟨_, rfl⟩
      rw [← hg9] at N15 HG9 ⊢
      clear hg9 T14 z0 C3 d1 T3 hT
      go_wp2_with fail
      go_loopw [10] (fun z wr => ∃ t : Nat, t ≤ 258 ∧ z = .int .i64 ((t : Int) - 1) ∧ Hid (LArr wr g9 ML) ∧ Hid (Below w.heap.size w wr)) (fun z _ => (257 - intOf z).toNat)
      case atStart => exact ⟨0, by omega, by simp, N15, T15⟩
      case round =>
        clear N15 T15
        obtain ⟨t, ht, rfl, hN, hT⟩ := hrel
        obtain ⟨z, hz⟩ : ∃ z : Int, z = (t : Int) - 1 := ⟨_, rfl⟩
        rw [← hz]
        have hzb : -1 ≤ z ∧ z ≤ 257 := by omega
        have HZ := Lib.hid hz
        clear hz
        by_cases hlt : z ≤ 256
        · have d1 : decide (z ≤ 256) = true := decide_eq_true hlt
          have hwf : (Lit.int .i64 z).wf = true := by
            simp only [Lit.wf, Bool.and_eq_true, IntKind.min, IntKind.max, IntKind.signed, IntKind.bits]
            simp
            omega
          have KG := Lib.hid (get_cat i N P S z wr (HC.out.after hT.out) HSM.out HP.out.small hwf)
          rw [← HQ.out] at KG
          have HGL := Lib.hid (get_live i P z)
          have HGB : Hid (i.get P z = getB i.bs i.th P z) := Lib.hid rfl
          obtain ⟨o, ho⟩ : ∃ o, o = i.get P z := ⟨_, rfl⟩
          rw [← ho] at KG HGL HGB
          clear ho hwf
          go_wp2_with fail
          refine KG.out.mono ?_
          rintro e w20 ⟨b20, h20⟩
          have N20 := Lib.hid (hN.out.after b20)
          have T20 := Lib.hid (hT.out.trans (b20.mono hT.out.size))
          have R20 := Lib.hid (Rc.after HR.out T20.out)
          have HN9 := Lib.hid hN.out.lt
          have HWS := Lib.hid hT.out.size
          clear KG b20 hN hT
          by_cases hin : 0 ≤ z ∧ z < 256
          · obtain ⟨k, rfl⟩ : ∃ k : Nat, z = (k : Int) := ⟨z.toNat, by omega⟩
            have hk : k < 256 := by omega
            have d2 : decide ((0 : Int) ≤ (k : Int)) = true := by simp
            have d3 : decide ((k : Int) < 256) = true := by simp; omega
            have d4 : (k : Int) < 256 := by omega
            have d5 : ¬ 256 ≤ k := by omega
            have d6 : ¬ (256 : Int) ≤ (k : Int) := by omega
            have c1 := (Rc.now R20.out).there hk
            have c2 := (Rc.now R20.out).body hk
            have HTB : Hid ((overT i.th P).getD k false = o.isSome) := Lib.hid (by
              rw [overT_get _ _ hk, HGL.out]
              unfold liveP
              cases P (k : Int) with
              | none => dsimp only; rw [decide_eq_true hin, Bool.true_and, Int.toNat_natCast]
              | some e => rfl)
            rw [HTB.out] at c1
            have HBB : Hid (∀ l, o = some l → (overB i.bs P).getD k ByteArray.empty = ⟨l.toArray⟩) := Lib.hid (fun l hl => by
              rw [overB_get _ _ hk]
              have h1 := HGB.out
              rw [hl] at h1
              unfold getB at h1
              cases hp : P (k : Int) with
              | none =>
                rw [hp] at h1
                dsimp only at h1 ⊢
                rw [Int.toNat_natCast] at h1
                split at h1
                · rw [Option.some.inj h1]
                · cases h1
              | some e =>
                rw [hp] at h1
                dsimp only at h1 ⊢
                split at h1
                · cases h1
                · rw [Option.some.inj h1])
            have HLH : Hid (lhas ML (k : Int) = o.isSome) := Lib.hid (by rw [HMZ.out, HGL.out])
            cases o with
            | none =>
              have HLZ : Hid (lhas ML (k : Int) = false) := Lib.hid (by rw [HMZ.out, ← HGL.out]; rfl)
              have KHAS := Lib.hid (refhas_any ML HML.out (k : Int) w20.drew)
              dsimp only at h20
              subst h20
              go_upto_region 21 with fail
              have SS : LArr w20.drew g9 ML := N20.out.drew
              have T20d := Lib.hid T20.out.drew
              go_wp2_with fail
              refine wp_region_held_drew (S := (fun w2 => LArr w2 g9 ML)) (by kernel_rfl) SS (fun _ => ?_)
              refine wpAnyH_take (i := 0) (v := .bool false) rfl (by kernel_rfl) (by kernel_rfl) (by kernel_rfl) (fun _ _ _ h => h) (Or.inl ⟨by kernel_rfl, fun w _ => by go_simp⟩) SS ?_
              simp only [Act.put, List.getElem_toArray, List.getElem_cons_zero, List.setIfInBounds_toArray, List.set_cons_zero, List.set_cons_succ]
              refine wpAnyH_take (i := 1) (v := .int .i64 61) rfl (by kernel_rfl) (by kernel_rfl) (by kernel_rfl) (fun _ _ _ h => h) (Or.inl ⟨by kernel_rfl, fun w _ => by go_simp⟩) SS ?_
              simp only [Act.put, List.getElem_toArray, List.getElem_cons_zero, List.getElem_cons_succ, List.setIfInBounds_toArray, List.set_cons_zero, List.set_cons_succ]
              refine wpAnyH_take (i := 2) (v := .bool false) rfl (by kernel_rfl) (by kernel_rfl) (by kernel_rfl) (fun _ _ _ h => h) (Or.inl ⟨by kernel_rfl, fun w _ => by go_simp⟩) SS ?_
              simp only [Act.put, List.getElem_toArray, List.getElem_cons_zero, List.getElem_cons_succ, List.setIfInBounds_toArray, List.set_cons_zero, List.set_cons_succ]
              refine wpAnyH_take (i := 3) (v := .bool false) rfl (by kernel_rfl) (by kernel_rfl) (by kernel_rfl) (fun _ _ _ h => h) (Or.inl ⟨by kernel_rfl, fun w _ => by go_simp⟩) SS ?_
              simp only [Act.put, List.getElem_toArray, List.getElem_cons_zero, List.getElem_cons_succ, List.setIfInBounds_toArray, List.set_cons_zero, List.set_cons_succ]
              refine wpAnyH_take (i := 4) (v := .bool false) rfl (by kernel_rfl) (by kernel_rfl) (by kernel_rfl) (fun _ _ _ h => h) (Or.inl ⟨by kernel_rfl, fun w _ => by go_simp⟩) SS ?_
              simp only [Act.put, List.getElem_toArray, List.getElem_cons_zero, List.getElem_cons_succ, List.setIfInBounds_toArray, List.set_cons_zero, List.set_cons_succ]
              refine wpAnyH_take (i := 5) (v := .bool false) rfl (by kernel_rfl) (by kernel_rfl) (by kernel_rfl) (fun _ _ _ h => h) (Or.inl ⟨by kernel_rfl, fun w _ => by go_simp⟩) SS ?_
              simp only [Act.put, List.getElem_toArray, List.getElem_cons_zero, List.getElem_cons_succ, List.setIfInBounds_toArray, List.set_cons_zero, List.set_cons_succ]
              refine wpAnyH_take (i := 6) (v := .bool true) rfl (by kernel_rfl) (by kernel_rfl) (by kernel_rfl) (fun _ _ _ h => h) (Or.inl ⟨by kernel_rfl, fun w _ => by go_simp⟩) SS ?_
              simp only [Act.put, List.getElem_toArray, List.getElem_cons_zero, List.getElem_cons_succ, List.setIfInBounds_toArray, List.set_cons_zero, List.set_cons_succ]
              refine wpAnyH_take (i := 7) (v := .bool true) rfl (by kernel_rfl) (by kernel_rfl) (by kernel_rfl) (fun _ _ _ h => h) (Or.inl ⟨by kernel_rfl, fun w _ => by go_simp⟩) SS ?_
              simp only [Act.put, List.getElem_toArray, List.getElem_cons_zero, List.getElem_cons_succ, List.setIfInBounds_toArray, List.set_cons_zero, List.set_cons_succ]
              refine wpAnyH_take (i := 8) (v := .int .i64 61) rfl (by kernel_rfl) (by kernel_rfl) (by kernel_rfl) (fun _ _ _ h => h) (Or.inl ⟨by kernel_rfl, fun w _ => by go_simp⟩) SS ?_
              simp only [Act.put, List.getElem_toArray, List.getElem_cons_zero, List.getElem_cons_succ, List.setIfInBounds_toArray, List.set_cons_zero, List.set_cons_succ]
              refine wpAnyH_take (i := 9) (v := .bool false) rfl (by kernel_rfl) (by kernel_rfl) (by kernel_rfl) (fun _ _ _ h => h) (Or.inl ⟨by kernel_rfl, fun w _ => by go_simp⟩) SS ?_
              simp only [Act.put, List.getElem_toArray, List.getElem_cons_zero, List.getElem_cons_succ, List.setIfInBounds_toArray, List.set_cons_zero, List.set_cons_succ]
              refine wpAnyH_take (i := 10) (v := .bool false) rfl (by kernel_rfl) (by kernel_rfl) (by kernel_rfl) (fun _ _ _ h => h) (Or.inl ⟨by kernel_rfl, fun w _ => by go_simp⟩) SS ?_
              simp only [Act.put, List.getElem_toArray, List.getElem_cons_zero, List.getElem_cons_succ, List.setIfInBounds_toArray, List.set_cons_zero, List.set_cons_succ]
              refine wpAnyH_take (i := 11) (v := .bool false) rfl (by kernel_rfl) (by kernel_rfl) (by kernel_rfl) (fun _ _ _ h => h) (Or.inl ⟨by kernel_rfl, fun w _ => by go_simp⟩) SS ?_
              simp only [Act.put, List.getElem_toArray, List.getElem_cons_zero, List.getElem_cons_succ, List.setIfInBounds_toArray, List.set_cons_zero, List.set_cons_succ]
              refine wpAnyH_take (i := 12) (v := .bool false) rfl (by kernel_rfl) (by kernel_rfl) (by kernel_rfl) (fun _ _ _ h => h) (Or.inl ⟨by kernel_rfl, fun w _ => by go_simp⟩) SS ?_
              simp only [Act.put, List.getElem_toArray, List.getElem_cons_zero, List.getElem_cons_succ, List.setIfInBounds_toArray, List.set_cons_zero, List.set_cons_succ]
              refine wpAnyH_take (i := 13) (v := .bool false) rfl (by kernel_rfl) (by kernel_rfl) (by kernel_rfl) (fun _ _ _ h => h) (Or.inl ⟨by kernel_rfl, fun w _ => by go_simp⟩) SS ?_
              simp only [Act.put, List.getElem_toArray, List.getElem_cons_zero, List.getElem_cons_succ, List.setIfInBounds_toArray, List.set_cons_zero, List.set_cons_succ]
              refine wpAnyH_take (i := 14) (v := .bool false) rfl (by kernel_rfl) (by kernel_rfl) (by kernel_rfl) (fun _ _ _ h => h) (Or.inl ⟨by kernel_rfl, fun w _ => by go_simp⟩) SS ?_
              simp only [Act.put, List.getElem_toArray, List.getElem_cons_zero, List.getElem_cons_succ, List.setIfInBounds_toArray, List.set_cons_zero, List.set_cons_succ]
              refine wpAnyH_take (i := 15) (v := undef) rfl (by kernel_rfl) (by kernel_rfl) (by kernel_rfl) (fun _ _ _ h => h) (Or.inr ⟨by kernel_rfl, rfl⟩) SS ?_
              simp only [Act.put, List.getElem_toArray, List.getElem_cons_zero, List.getElem_cons_succ, List.setIfInBounds_toArray, List.set_cons_zero, List.set_cons_succ]
              refine wpAnyH_take (i := 16) (v := undef) rfl (by kernel_rfl) (by kernel_rfl) (by kernel_rfl) (fun _ _ _ h => h) (Or.inr ⟨by kernel_rfl, rfl⟩) SS ?_
              simp only [Act.put, List.getElem_toArray, List.getElem_cons_zero, List.getElem_cons_succ, List.setIfInBounds_toArray, List.set_cons_zero, List.set_cons_succ]
              refine wpAnyH_take (i := 17) (v := undef) rfl (by kernel_rfl) (by kernel_rfl) (by kernel_rfl) (fun _ _ _ h => h) (Or.inr ⟨by kernel_rfl, rfl⟩) SS ?_
              simp only [Act.put, List.getElem_toArray, List.getElem_cons_zero, List.getElem_cons_succ, List.setIfInBounds_toArray, List.set_cons_zero, List.set_cons_succ]
              refine wpAnyH_take (i := 18) (v := undef) rfl (by kernel_rfl) (by kernel_rfl) (by kernel_rfl) (fun _ _ _ h => h) (Or.inr ⟨by kernel_rfl, rfl⟩) SS ?_
              simp only [Act.put, List.getElem_toArray, List.getElem_cons_zero, List.getElem_cons_succ, List.setIfInBounds_toArray, List.set_cons_zero, List.set_cons_succ]
              refine wpAnyH_take (i := 19) (v := undef) rfl (by kernel_rfl) (by kernel_rfl) (by kernel_rfl) (fun _ _ _ h => h) (Or.inr ⟨by kernel_rfl, rfl⟩) SS ?_
              simp only [Act.put, List.getElem_toArray, List.getElem_cons_zero, List.getElem_cons_succ, List.setIfInBounds_toArray, List.set_cons_zero, List.set_cons_succ]
              refine wpAnyH_take (i := 20) (v := undef) rfl (by kernel_rfl) (by kernel_rfl) (by kernel_rfl) (fun _ _ _ h => h) (Or.inr ⟨by kernel_rfl, rfl⟩) SS ?_
              simp only [Act.put, List.getElem_toArray, List.getElem_cons_zero, List.getElem_cons_succ, List.setIfInBounds_toArray, List.set_cons_zero, List.set_cons_succ]
              refine wpAnyH_take (i := 21) (v := undef) rfl (by kernel_rfl) (by kernel_rfl) (by kernel_rfl) (fun _ _ _ h => h) (Or.inr ⟨by kernel_rfl, rfl⟩) SS ?_
              simp only [Act.put, List.getElem_toArray, List.getElem_cons_zero, List.getElem_cons_succ, List.setIfInBounds_toArray, List.set_cons_zero, List.set_cons_succ]
              refine wpAnyH_take (i := 22) (v := undef) rfl (by kernel_rfl) (by kernel_rfl) (by kernel_rfl) (fun _ _ _ h => h) (Or.inr ⟨by kernel_rfl, rfl⟩) SS ?_
              simp only [Act.put, List.getElem_toArray, List.getElem_cons_zero, List.getElem_cons_succ, List.setIfInBounds_toArray, List.set_cons_zero, List.set_cons_succ]
              refine wpAnyH_take (i := 23) (v := undef) rfl (by kernel_rfl) (by kernel_rfl) (by kernel_rfl) (fun _ _ _ h => h) (Or.inr ⟨by kernel_rfl, rfl⟩) SS ?_
              simp only [Act.put, List.getElem_toArray, List.getElem_cons_zero, List.getElem_cons_succ, List.setIfInBounds_toArray, List.set_cons_zero, List.set_cons_succ]
              refine wpAnyH_take (i := 24) (v := undef) rfl (by kernel_rfl) (by kernel_rfl) (by kernel_rfl) (fun _ _ _ h => h) (Or.inr ⟨by kernel_rfl, rfl⟩) SS ?_
              simp only [Act.put, List.getElem_toArray, List.getElem_cons_zero, List.getElem_cons_succ, List.setIfInBounds_toArray, List.set_cons_zero, List.set_cons_succ]
              refine wpAnyH_take (i := 25) (v := .bool false) rfl (by kernel_rfl) (by kernel_rfl) (by kernel_rfl) (fun _ _ _ h => h) (Or.inl ⟨by kernel_rfl, fun w _ => by go_simp⟩) SS ?_
              simp only [Act.put, List.getElem_toArray, List.getElem_cons_zero, List.getElem_cons_succ, List.setIfInBounds_toArray, List.set_cons_zero, List.set_cons_succ]
              refine wpAnyH_take (i := 26) (v := .bool false) rfl (by kernel_rfl) (by kernel_rfl) (by kernel_rfl) (fun _ _ _ h => h) (Or.inl ⟨by kernel_rfl, fun w _ => by go_simp⟩) SS ?_
              simp only [Act.put, List.getElem_toArray, List.getElem_cons_zero, List.getElem_cons_succ, List.setIfInBounds_toArray, List.set_cons_zero, List.set_cons_succ]
              refine wpAnyH_take (i := 27) (v := .bool false) rfl (by kernel_rfl) (by kernel_rfl) (by kernel_rfl) (fun _ _ _ h => h) (Or.inl ⟨by kernel_rfl, fun w _ => by go_simp⟩) SS ?_
              simp only [Act.put, List.getElem_toArray, List.getElem_cons_zero, List.getElem_cons_succ, List.setIfInBounds_toArray, List.set_cons_zero, List.set_cons_succ]
              refine wpAnyH_take (i := 28) (v := .agg (cl ML)) rfl (by kernel_rfl) (by kernel_rfl) (by kernel_rfl) (fun _ _ _ h => h) (yields_lload (g := g9) (.tmp 9) (by kernel_rfl) (by kernel_rfl) (by kernel_rfl) (fun _ h => h)) SS ?_
              simp only [Act.put, List.getElem_toArray, List.getElem_cons_zero, List.getElem_cons_succ, List.setIfInBounds_toArray, List.set_cons_zero, List.set_cons_succ]
              refine wpAnyH_take (i := 29) (v := .int .i64 (k : Int)) rfl (by kernel_rfl) (by kernel_rfl) (by kernel_rfl) (fun _ _ _ h => h) (Or.inl ⟨by kernel_rfl, fun w _ => by go_simp⟩) SS ?_
              simp only [Act.put, List.getElem_toArray, List.getElem_cons_zero, List.getElem_cons_succ, List.setIfInBounds_toArray, List.set_cons_zero, List.set_cons_succ]
              refine wpAnyH_take (i := 31) (v := .bool false) rfl (by kernel_rfl) (by kernel_rfl) (by kernel_rfl) (fun _ _ _ h => h) (Or.inl ⟨by kernel_rfl, fun w _ => by go_simp⟩) SS ?_
              simp only [Act.put, List.getElem_toArray, List.getElem_cons_zero, List.getElem_cons_succ, List.setIfInBounds_toArray, List.set_cons_zero, List.set_cons_succ]
              refine wpAnyH_ready (rs := [30]) (by kernel_rfl) (by simp) (AllReadyH.cons rfl (fun K hK => ?_) AllReadyH.nil)
              go_simp
              ((with_reducible refine KHAS.out.mono ?_); rintro e w21 ⟨rfl, b21⟩)
              have SS2 := SS.after b21
              have T21 := Lib.hid (T20d.out.trans (b21.mono T20d.out.size))
              rw [HLZ.out]
              refine hK _ _ SS2 (fun _ => ?_)
              clear hK K b21 KHAS
              refine wpAnyH_take (i := 32) (v := .bool false) rfl (by kernel_rfl) (by kernel_rfl) (by kernel_rfl) (fun _ _ _ h => h) (Or.inl ⟨by kernel_rfl, fun w _ => by go_simp⟩) SS2 ?_
              simp only [Act.put, List.getElem_toArray, List.getElem_cons_zero, List.getElem_cons_succ, List.setIfInBounds_toArray, List.set_cons_zero, List.set_cons_succ]
              refine wpAnyH_take (i := 33) (v := .bool false) rfl (by kernel_rfl) (by kernel_rfl) (by kernel_rfl) (fun _ _ _ h => h) (Or.inl ⟨by kernel_rfl, fun w _ => by go_simp⟩) SS2 ?_
              simp only [Act.put, List.getElem_toArray, List.getElem_cons_zero, List.getElem_cons_succ, List.setIfInBounds_toArray, List.set_cons_zero, List.set_cons_succ]
              refine wpAnyH_done (by kernel_rfl) ?_ _
              go_simp
              go_upto_region 24 with fail
              go_loopw [149] (fun y wr => ∃ c : Nat, c ≤ 0 ∧ y = .int .i64 c ∧ Hid (LArr wr g9 ML) ∧ Hid (Below w.heap.size w wr)) (fun y _ => 0)
              case atStart => exact ⟨0, Nat.le_refl _, rfl, Lib.hid SS2, T21⟩
              case round =>
                obtain ⟨c0, hc0, rfl, hN, hT⟩ := hrel
                obtain rfl : c0 = 0 := by omega
                go_wp2_with fail
                exact ⟨⟨t + 1, by have := HZ.out; omega, congrArg (Value.int .i64) (by have := HZ.out; omega), hN, hT⟩, by simp only [intOf]; omega⟩
            | some l =>
              dsimp only at h20
              obtain ⟨A20, c20, rfl, o20⟩ := h20
              have hlm : l.length ≤ maxLen := by
                obtain ⟨_, _, e, h1, h2⟩ := o20.shape
                cases e
                omega
              have HLZ : Hid (lhas ML (k : Int) = true) := Lib.hid (by rw [HMZ.out, ← HGL.out]; rfl)
              have KHAS := Lib.hid (refhas_any ML HML.out (k : Int) w20.drew)
              rw [HBB.out l rfl] at c2
              obtain ⟨ln, hln⟩ : ∃ ln, l.length = ln := ⟨_, rfl⟩
              have HLN := Lib.hid hln
              have O20 := Lib.hid o20
              have HBY := Lib.hid (o20.bytes hlm)
              rw [hln] at O20 HBY ⊢
              have hln2 : ln ≤ 2 ^ 63 - 1 := by rw [← hln]; exact hlm
              clear o20 hln hlm
              go_upto_region 21 with fail
              have SS : (LArr w20.drew g9 ML ∧ w20.drew.cell? ⟨r, 512 + k, none⟩ = some (.string ⟨l.toArray⟩)) ∧ Below w20.heap.size w20 w20.drew := ⟨⟨N20.out.drew, c2⟩, (Below.refl _ _).drew⟩
              have T20d := Lib.hid T20.out.drew
              have RL := Lib.hid (Rc.lt R20.out)
              clear c1 c2
              go_wp2_with fail
              refine wp_region_held_drew (S := (fun w2 => (LArr w2 g9 ML ∧ w2.cell? ⟨r, 512 + k, none⟩ = some (.string ⟨l.toArray⟩)) ∧ Below w20.heap.size w20 w2)) (by kernel_rfl) SS (fun _ => ?_)
              refine wpAnyH_take (i := 0) (v := .bool true) rfl (by kernel_rfl) (by kernel_rfl) (by kernel_rfl) (fun _ _ _ h => h) (Or.inl ⟨by kernel_rfl, fun w _ => by go_simp⟩) SS ?_
              simp only [Act.put, List.getElem_toArray, List.getElem_cons_zero, List.setIfInBounds_toArray, List.set_cons_zero, List.set_cons_succ]
              refine wpAnyH_take (i := 1) (v := .int .i64 0) rfl (by kernel_rfl) (by kernel_rfl) (by kernel_rfl) (fun _ _ _ h => h) (Or.inl ⟨by kernel_rfl, fun w _ => by go_simp⟩) SS ?_
              simp only [Act.put, List.getElem_toArray, List.getElem_cons_zero, List.getElem_cons_succ, List.setIfInBounds_toArray, List.set_cons_zero, List.set_cons_succ]
              refine wpAnyH_take (i := 2) (v := .bool true) rfl (by kernel_rfl) (by kernel_rfl) (by kernel_rfl) (fun _ _ _ h => h) (Or.inl ⟨by kernel_rfl, fun w _ => by go_simp⟩) SS ?_
              simp only [Act.put, List.getElem_toArray, List.getElem_cons_zero, List.getElem_cons_succ, List.setIfInBounds_toArray, List.set_cons_zero, List.set_cons_succ]
              refine wpAnyH_take (i := 3) (v := .bool false) rfl (by kernel_rfl) (by kernel_rfl) (by kernel_rfl) (fun _ _ _ h => h) (Or.inl ⟨by kernel_rfl, fun w _ => by go_simp⟩) SS ?_
              simp only [Act.put, List.getElem_toArray, List.getElem_cons_zero, List.getElem_cons_succ, List.setIfInBounds_toArray, List.set_cons_zero, List.set_cons_succ]
              refine wpAnyH_take (i := 4) (v := .bool false) rfl (by kernel_rfl) (by kernel_rfl) (by kernel_rfl) (fun _ _ _ h => h) (Or.inl ⟨by kernel_rfl, fun w _ => by go_simp⟩) SS ?_
              simp only [Act.put, List.getElem_toArray, List.getElem_cons_zero, List.getElem_cons_succ, List.setIfInBounds_toArray, List.set_cons_zero, List.set_cons_succ]
              refine wpAnyH_take (i := 5) (v := .bool true) rfl (by kernel_rfl) (by kernel_rfl) (by kernel_rfl) (fun _ _ _ h => h) (Or.inl ⟨by kernel_rfl, fun w _ => by go_simp⟩) SS ?_
              simp only [Act.put, List.getElem_toArray, List.getElem_cons_zero, List.getElem_cons_succ, List.setIfInBounds_toArray, List.set_cons_zero, List.set_cons_succ]
              refine wpAnyH_take (i := 6) (v := .bool false) rfl (by kernel_rfl) (by kernel_rfl) (by kernel_rfl) (fun _ _ _ h => h) (Or.inl ⟨by kernel_rfl, fun w _ => by go_simp⟩) SS ?_
              simp only [Act.put, List.getElem_toArray, List.getElem_cons_zero, List.getElem_cons_succ, List.setIfInBounds_toArray, List.set_cons_zero, List.set_cons_succ]
              refine wpAnyH_take (i := 7) (v := .bool false) rfl (by kernel_rfl) (by kernel_rfl) (by kernel_rfl) (fun _ _ _ h => h) (Or.inl ⟨by kernel_rfl, fun w _ => by go_simp⟩) SS ?_
              simp only [Act.put, List.getElem_toArray, List.getElem_cons_zero, List.getElem_cons_succ, List.setIfInBounds_toArray, List.set_cons_zero, List.set_cons_succ]
              refine wpAnyH_take (i := 8) (v := undef) rfl (by kernel_rfl) (by kernel_rfl) (by kernel_rfl) (fun _ _ _ h => h) (Or.inr ⟨by kernel_rfl, rfl⟩) SS ?_
              simp only [Act.put, List.getElem_toArray, List.getElem_cons_zero, List.getElem_cons_succ, List.setIfInBounds_toArray, List.set_cons_zero, List.set_cons_succ]
              refine wpAnyH_take (i := 9) (v := undef) rfl (by kernel_rfl) (by kernel_rfl) (by kernel_rfl) (fun _ _ _ h => h) (Or.inr ⟨by kernel_rfl, rfl⟩) SS ?_
              simp only [Act.put, List.getElem_toArray, List.getElem_cons_zero, List.getElem_cons_succ, List.setIfInBounds_toArray, List.set_cons_zero, List.set_cons_succ]
              refine wpAnyH_take (i := 10) (v := .bool false) rfl (by kernel_rfl) (by kernel_rfl) (by kernel_rfl) (fun _ _ _ h => h) (Or.inl ⟨by kernel_rfl, fun w _ => by go_simp⟩) SS ?_
              simp only [Act.put, List.getElem_toArray, List.getElem_cons_zero, List.getElem_cons_succ, List.setIfInBounds_toArray, List.set_cons_zero, List.set_cons_succ]
              refine wpAnyH_take (i := 11) (v := .bool false) rfl (by kernel_rfl) (by kernel_rfl) (by kernel_rfl) (fun _ _ _ h => h) (Or.inl ⟨by kernel_rfl, fun w _ => by go_simp⟩) SS ?_
              simp only [Act.put, List.getElem_toArray, List.getElem_cons_zero, List.getElem_cons_succ, List.setIfInBounds_toArray, List.set_cons_zero, List.set_cons_succ]
              refine wpAnyH_take (i := 12) (v := .bool false) rfl (by kernel_rfl) (by kernel_rfl) (by kernel_rfl) (fun _ _ _ h => h) (Or.inl ⟨by kernel_rfl, fun w _ => by go_simp⟩) SS ?_
              simp only [Act.put, List.getElem_toArray, List.getElem_cons_zero, List.getElem_cons_succ, List.setIfInBounds_toArray, List.set_cons_zero, List.set_cons_succ]
              refine wpAnyH_take (i := 13) (v := .bool true) rfl (by kernel_rfl) (by kernel_rfl) (by kernel_rfl) (fun _ _ _ h => h) (Or.inl ⟨by kernel_rfl, fun w _ => by go_simp⟩) SS ?_
              simp only [Act.put, List.getElem_toArray, List.getElem_cons_zero, List.getElem_cons_succ, List.setIfInBounds_toArray, List.set_cons_zero, List.set_cons_succ]
              refine wpAnyH_take (i := 14) (v := .bool true) rfl (by kernel_rfl) (by kernel_rfl) (by kernel_rfl) (fun _ _ _ h => h) (Or.inl ⟨by kernel_rfl, fun w _ => by go_simp⟩) SS ?_
              simp only [Act.put, List.getElem_toArray, List.getElem_cons_zero, List.getElem_cons_succ, List.setIfInBounds_toArray, List.set_cons_zero, List.set_cons_succ]
              refine wpAnyH_take (i := 15) (v := .slice A20 ln c20) rfl (by kernel_rfl) (by kernel_rfl) (by kernel_rfl) (fun _ _ _ h => h) (Or.inl ⟨by kernel_rfl, fun w _ => by go_simp⟩) SS ?_
              simp only [Act.put, List.getElem_toArray, List.getElem_cons_zero, List.getElem_cons_succ, List.setIfInBounds_toArray, List.set_cons_zero, List.set_cons_succ]
              refine wpAnyH_take (i := 16) (v := .string ⟨l.toArray⟩) rfl (by kernel_rfl) (by kernel_rfl) (by kernel_rfl) (fun _ _ _ h => h) (yields_strC (v := .slice A20 ln c20) (.tmp 128) (by kernel_rfl) (by kernel_rfl) (by kernel_rfl) (fun w h => (HBY.out.below h.2).more h.2.size)) SS ?_
              simp only [Act.put, List.getElem_toArray, List.getElem_cons_zero, List.getElem_cons_succ, List.setIfInBounds_toArray, List.set_cons_zero, List.set_cons_succ]
              refine wpAnyH_take (i := 17) (v := .pointer (some ⟨r, 0, none⟩)) rfl (by kernel_rfl) (by kernel_rfl) (by kernel_rfl) (fun _ _ _ h => h) (Or.inl ⟨by kernel_rfl, fun w _ => by go_simp⟩) SS ?_
              simp only [Act.put, List.getElem_toArray, List.getElem_cons_zero, List.getElem_cons_succ, List.setIfInBounds_toArray, List.set_cons_zero, List.set_cons_succ]
              refine wpAnyH_take (i := 18) (v := .int .i64 (k : Int)) rfl (by kernel_rfl) (by kernel_rfl) (by kernel_rfl) (fun _ _ _ h => h) (Or.inl ⟨by kernel_rfl, fun w _ => by go_simp⟩) SS ?_
              simp only [Act.put, List.getElem_toArray, List.getElem_cons_zero, List.getElem_cons_succ, List.setIfInBounds_toArray, List.set_cons_zero, List.set_cons_succ]
              refine wpAnyH_take (i := 19) (v := .pointer (some ⟨r, 0, none⟩)) rfl (by kernel_rfl) (by kernel_rfl) (by kernel_rfl) (fun _ _ _ h => h) (Or.inl ⟨by kernel_rfl, fun w _ => by go_simp⟩) SS ?_
              simp only [Act.put, List.getElem_toArray, List.getElem_cons_zero, List.getElem_cons_succ, List.setIfInBounds_toArray, List.set_cons_zero, List.set_cons_succ]
              refine wpAnyH_take (i := 20) (v := .pointer (some ⟨r, 512, none⟩)) rfl (by kernel_rfl) (by kernel_rfl) (by kernel_rfl) (fun _ _ _ h => h) (Or.inl ⟨by kernel_rfl, fun w _ => by go_simp⟩) SS ?_
              simp only [Act.put, List.getElem_toArray, List.getElem_cons_zero, List.getElem_cons_succ, List.setIfInBounds_toArray, List.set_cons_zero, List.set_cons_succ]
              refine wpAnyH_take (i := 21) (v := .pointer (some ⟨r, 512, none⟩)) rfl (by kernel_rfl) (by kernel_rfl) (by kernel_rfl) (fun _ _ _ h => h) (Or.inl ⟨by kernel_rfl, fun w _ => by go_simp⟩) SS ?_
              simp only [Act.put, List.getElem_toArray, List.getElem_cons_zero, List.getElem_cons_succ, List.setIfInBounds_toArray, List.set_cons_zero, List.set_cons_succ]
              refine wpAnyH_take (i := 22) (v := .pointer (some ⟨r, 512 + k, none⟩)) rfl (by kernel_rfl) (by kernel_rfl) (by kernel_rfl) (fun _ _ _ h => h) (Or.inl ⟨by kernel_rfl, fun w _ => by go_simp⟩) SS ?_
              simp only [Act.put, List.getElem_toArray, List.getElem_cons_zero, List.getElem_cons_succ, List.setIfInBounds_toArray, List.set_cons_zero, List.set_cons_succ]
              refine wpAnyH_take (i := 23) (v := .string ⟨l.toArray⟩) rfl (by kernel_rfl) (by kernel_rfl) (by kernel_rfl) (fun _ _ _ h => h) (yields_one (ty := 9) (fun w => by kernel_rfl) (.tmp 135) (by kernel_rfl) (by kernel_rfl) (by kernel_rfl) (fun w2 h => h.1.2)) SS ?_
              simp only [Act.put, List.getElem_toArray, List.getElem_cons_zero, List.getElem_cons_succ, List.setIfInBounds_toArray, List.set_cons_zero, List.set_cons_succ]
              refine wpAnyH_take (i := 24) (v := .bool false) rfl (by kernel_rfl) (by kernel_rfl) (by kernel_rfl) (fun _ _ _ h => h) (Or.inl ⟨by kernel_rfl, fun w _ => by go_simp⟩) SS ?_
              simp only [Act.put, List.getElem_toArray, List.getElem_cons_zero, List.getElem_cons_succ, List.setIfInBounds_toArray, List.set_cons_zero, List.set_cons_succ]
              refine wpAnyH_take (i := 25) (v := .bool false) rfl (by kernel_rfl) (by kernel_rfl) (by kernel_rfl) (fun _ _ _ h => h) (Or.inl ⟨by kernel_rfl, fun w _ => by go_simp⟩) SS ?_
              simp only [Act.put, List.getElem_toArray, List.getElem_cons_zero, List.getElem_cons_succ, List.setIfInBounds_toArray, List.set_cons_zero, List.set_cons_succ]
              refine wpAnyH_take (i := 26) (v := .bool false) rfl (by kernel_rfl) (by kernel_rfl) (by kernel_rfl) (fun _ _ _ h => h) (Or.inl ⟨by kernel_rfl, fun w _ => by go_simp⟩) SS ?_
              simp only [Act.put, List.getElem_toArray, List.getElem_cons_zero, List.getElem_cons_succ, List.setIfInBounds_toArray, List.set_cons_zero, List.set_cons_succ]
              refine wpAnyH_take (i := 27) (v := .bool false) rfl (by kernel_rfl) (by kernel_rfl) (by kernel_rfl) (fun _ _ _ h => h) (Or.inl ⟨by kernel_rfl, fun w _ => by go_simp⟩) SS ?_
              simp only [Act.put, List.getElem_toArray, List.getElem_cons_zero, List.getElem_cons_succ, List.setIfInBounds_toArray, List.set_cons_zero, List.set_cons_succ]
              refine wpAnyH_take (i := 28) (v := .agg (cl ML)) rfl (by kernel_rfl) (by kernel_rfl) (by kernel_rfl) (fun _ _ _ h => h) (yields_lload (g := g9) (.tmp 9) (by kernel_rfl) (by kernel_rfl) (by kernel_rfl) (fun _ h => h.1.1)) SS ?_
              simp only [Act.put, List.getElem_toArray, List.getElem_cons_zero, List.getElem_cons_succ, List.setIfInBounds_toArray, List.set_cons_zero, List.set_cons_succ]
              refine wpAnyH_take (i := 29) (v := .int .i64 (k : Int)) rfl (by kernel_rfl) (by kernel_rfl) (by kernel_rfl) (fun _ _ _ h => h) (Or.inl ⟨by kernel_rfl, fun w _ => by go_simp⟩) SS ?_
              simp only [Act.put, List.getElem_toArray, List.getElem_cons_zero, List.getElem_cons_succ, List.setIfInBounds_toArray, List.set_cons_zero, List.set_cons_succ]
              refine wpAnyH_take (i := 31) (v := .bool true) rfl (by kernel_rfl) (by kernel_rfl) (by kernel_rfl) (fun _ _ _ h => h) (Or.inl ⟨by kernel_rfl, fun w _ => by go_simp⟩) SS ?_
              simp only [Act.put, List.getElem_toArray, List.getElem_cons_zero, List.getElem_cons_succ, List.setIfInBounds_toArray, List.set_cons_zero, List.set_cons_succ]
              refine wpAnyH_ready (rs := [30]) (by kernel_rfl) (by simp) (AllReadyH.cons rfl (fun K hK => ?_) AllReadyH.nil)
              go_simp
              ((with_reducible refine KHAS.out.mono ?_); rintro e w21 ⟨rfl, b21⟩)
              have SS2 : (LArr w21 g9 ML ∧ w21.cell? ⟨r, 512 + k, none⟩ = some (.string ⟨l.toArray⟩)) ∧ Below w20.heap.size w20 w21 := ⟨⟨SS.1.1.after b21, (b21.cell (p := ⟨r, 512 + k, none⟩) RL.out).trans SS.1.2⟩, SS.2.trans (b21.mono SS.2.size)⟩
              have T21 := Lib.hid (T20d.out.trans (b21.mono T20d.out.size))
              rw [HLZ.out]
              refine hK _ _ SS2 (fun _ => ?_)
              clear hK K b21 KHAS
              refine wpAnyH_take (i := 32) (v := .bool false) rfl (by kernel_rfl) (by kernel_rfl) (by kernel_rfl) (fun _ _ _ h => h) (Or.inl ⟨by kernel_rfl, fun w _ => by go_simp⟩) SS2 ?_
              simp only [Act.put, List.getElem_toArray, List.getElem_cons_zero, List.getElem_cons_succ, List.setIfInBounds_toArray, List.set_cons_zero, List.set_cons_succ]
              refine wpAnyH_take (i := 33) (v := .bool false) rfl (by kernel_rfl) (by kernel_rfl) (by kernel_rfl) (fun _ _ _ h => h) (Or.inl ⟨by kernel_rfl, fun w _ => by go_simp⟩) SS2 ?_
              simp only [Act.put, List.getElem_toArray, List.getElem_cons_zero, List.getElem_cons_succ, List.setIfInBounds_toArray, List.set_cons_zero, List.set_cons_succ]
              refine wpAnyH_done (by kernel_rfl) ?_ _
              go_simp
              have N21 := Lib.hid SS2.1.1
              have O21 := Lib.hid (Own.below O20.out SS2.2)
              have HG9L : Hid (g9 < wr.heap.size) := Lib.hid HN9.out
              have HWL := Lib.hid HWS.out
              clear SS SS2 O20 N20 T20 T20d
              obtain ⟨W1, hW1⟩ : ∃ W1, W1 = wr := ⟨_, rfl⟩
              rw [← hW1] at O21 HG9L HWL
              go_upto_region 24 with fail
              go_loopw [149] (fun y wr => ∃ c : Nat, c ≤ ln ∧ y = .int .i64 c ∧ Hid (LArr wr g9 ML) ∧ Hid (∃ l2 : List UInt8, l2.length = ln ∧ Own 5 wr W1.heap.size (.slice A20 ln c20) l2) ∧ Hid (Below w.heap.size w wr)) (fun y _ => ln - (intOf y).toNat)
              case atStart => exact ⟨0, Nat.zero_le _, rfl, N21, Lib.hid ⟨l, HLN.out, O21.out⟩, T21⟩
              case round =>
                clear N21 O21 T21
                obtain ⟨c0, hc0, rfl, hN, hO, hT⟩ := hrel
                by_cases hcl : c0 < ln
                · have d7 : decide ((c0 : Int) < (ln : Int)) = true := by simp; omega
                  obtain ⟨l2, hl2, ho2⟩ := hO.out
                  obtain ⟨gb, rfl, hgb, hgb2⟩ := ho2.addr (by omega)
                  have x1 : wr.cell? ⟨gb, c0, none⟩ = some (.int .u8 ((l2.getD c0 0).toNat : Int)) := ho2.cell (by rw [List.getD_eq_getElem?_getD, List.getElem?_eq_getElem (by omega)]; rfl)
                  have f1 := ho2.free c0
                  have HON := Lib.hid (ho2.set c0 238)
                  have s1 := only_set wr ⟨gb, c0, none⟩ (.int .u8 238)
                  have HNN := Lib.hid (hN.out.grown s1 (by have := HG9L.out; show g9 ≠ gb; omega))
                  have HTN := Lib.hid (hT.out.grown s1 hT.out.size (fun b e => by have := HWL.out; have h9 := Option.some.inj e; simp only at h9; omega))
                  have HLS2 := Lib.hid hl2
                  clear ho2 hN hO hT s1 hgb hgb2 hl2
                  go_wp2_with fail
                  exact ⟨⟨c0 + 1, by omega, by go_num, HNN, Lib.hid ⟨_, by rw [List.length_set]; exact HLS2.out, HON.out⟩, HTN⟩, by simp [intOf]; omega⟩
                · obtain rfl : c0 = ln := by omega
                  have d7 : decide ((c0 : Int) < (c0 : Int)) = false := by simp
                  go_wp2_with fail
                  exact ⟨⟨t + 1, by have := HZ.out; omega, congrArg (Value.int .i64) (by have := HZ.out; omega), hN, hT⟩, by simp only [intOf]; omega⟩
          · have HON : Hid (o = none) := Lib.hid (by
              have h1 := HGL.out
              unfold liveP at h1
              cases hp : P z with
              | some e => exact absurd (HP.out z e hp).1 hin
              | none =>
                rw [hp] at h1
                dsimp only at h1
                rw [decide_eq_false hin, Bool.false_and] at h1
                cases o with
                | none => rfl
                | some l => cases h1)
            obtain rfl := HON.out
            have HLZ : Hid (lhas ML z = false) := Lib.hid (by rw [HMZ.out, ← HGL.out]; rfl)
            have KHAS := Lib.hid (refhas_any ML HML.out z w20.drew)
            dsimp only at h20
            subst h20
            have d2 : decide (0 ≤ z) = decide (0 ≤ z) := rfl
            rcases (show z = -1 ∨ z = 256 by omega) with hzz | hzz
            · subst hzz
              clear d1 d2
              go_upto_region 21 with fail
              have SS : LArr w20.drew g9 ML := N20.out.drew
              have T20d := Lib.hid T20.out.drew
              go_wp2_with fail
              refine wp_region_held_drew (S := (fun w2 => LArr w2 g9 ML)) (by kernel_rfl) SS (fun _ => ?_)
              refine wpAnyH_take (i := 0) (v := .bool false) rfl (by kernel_rfl) (by kernel_rfl) (by kernel_rfl) (fun _ _ _ h => h) (Or.inl ⟨by kernel_rfl, fun w _ => by go_simp⟩) SS ?_
              simp only [Act.put, List.getElem_toArray, List.getElem_cons_zero, List.setIfInBounds_toArray, List.set_cons_zero, List.set_cons_succ]
              refine wpAnyH_take (i := 1) (v := .int .i64 61) rfl (by kernel_rfl) (by kernel_rfl) (by kernel_rfl) (fun _ _ _ h => h) (Or.inl ⟨by kernel_rfl, fun w _ => by go_simp⟩) SS ?_
              simp only [Act.put, List.getElem_toArray, List.getElem_cons_zero, List.getElem_cons_succ, List.setIfInBounds_toArray, List.set_cons_zero, List.set_cons_succ]
              refine wpAnyH_take (i := 2) (v := .bool false) rfl (by kernel_rfl) (by kernel_rfl) (by kernel_rfl) (fun _ _ _ h => h) (Or.inl ⟨by kernel_rfl, fun w _ => by go_simp⟩) SS ?_
              simp only [Act.put, List.getElem_toArray, List.getElem_cons_zero, List.getElem_cons_succ, List.setIfInBounds_toArray, List.set_cons_zero, List.set_cons_succ]
              refine wpAnyH_take (i := 3) (v := .bool false) rfl (by kernel_rfl) (by kernel_rfl) (by kernel_rfl) (fun _ _ _ h => h) (Or.inl ⟨by kernel_rfl, fun w _ => by go_simp⟩) SS ?_
              simp only [Act.put, List.getElem_toArray, List.getElem_cons_zero, List.getElem_cons_succ, List.setIfInBounds_toArray, List.set_cons_zero, List.set_cons_succ]
              refine wpAnyH_take (i := 4) (v := .bool false) rfl (by kernel_rfl) (by kernel_rfl) (by kernel_rfl) (fun _ _ _ h => h) (Or.inl ⟨by kernel_rfl, fun w _ => by go_simp⟩) SS ?_
              simp only [Act.put, List.getElem_toArray, List.getElem_cons_zero, List.getElem_cons_succ, List.setIfInBounds_toArray, List.set_cons_zero, List.set_cons_succ]
              refine wpAnyH_take (i := 5) (v := .bool false) rfl (by kernel_rfl) (by kernel_rfl) (by kernel_rfl) (fun _ _ _ h => h) (Or.inl ⟨by kernel_rfl, fun w _ => by go_simp⟩) SS ?_
              simp only [Act.put, List.getElem_toArray, List.getElem_cons_zero, List.getElem_cons_succ, List.setIfInBounds_toArray, List.set_cons_zero, List.set_cons_succ]
              refine wpAnyH_take (i := 6) (v := .bool true) rfl (by kernel_rfl) (by kernel_rfl) (by kernel_rfl) (fun _ _ _ h => h) (Or.inl ⟨by kernel_rfl, fun w _ => by go_simp⟩) SS ?_
              simp only [Act.put, List.getElem_toArray, List.getElem_cons_zero, List.getElem_cons_succ, List.setIfInBounds_toArray, List.set_cons_zero, List.set_cons_succ]
              refine wpAnyH_take (i := 7) (v := .bool true) rfl (by kernel_rfl) (by kernel_rfl) (by kernel_rfl) (fun _ _ _ h => h) (Or.inl ⟨by kernel_rfl, fun w _ => by go_simp⟩) SS ?_
              simp only [Act.put, List.getElem_toArray, List.getElem_cons_zero, List.getElem_cons_succ, List.setIfInBounds_toArray, List.set_cons_zero, List.set_cons_succ]
              refine wpAnyH_take (i := 8) (v := .int .i64 61) rfl (by kernel_rfl) (by kernel_rfl) (by kernel_rfl) (fun _ _ _ h => h) (Or.inl ⟨by kernel_rfl, fun w _ => by go_simp⟩) SS ?_
              simp only [Act.put, List.getElem_toArray, List.getElem_cons_zero, List.getElem_cons_succ, List.setIfInBounds_toArray, List.set_cons_zero, List.set_cons_succ]
              refine wpAnyH_take (i := 9) (v := .bool false) rfl (by kernel_rfl) (by kernel_rfl) (by kernel_rfl) (fun _ _ _ h => h) (Or.inl ⟨by kernel_rfl, fun w _ => by go_simp⟩) SS ?_
              simp only [Act.put, List.getElem_toArray, List.getElem_cons_zero, List.getElem_cons_succ, List.setIfInBounds_toArray, List.set_cons_zero, List.set_cons_succ]
              refine wpAnyH_take (i := 10) (v := .bool false) rfl (by kernel_rfl) (by kernel_rfl) (by kernel_rfl) (fun _ _ _ h => h) (Or.inl ⟨by kernel_rfl, fun w _ => by go_simp⟩) SS ?_
              simp only [Act.put, List.getElem_toArray, List.getElem_cons_zero, List.getElem_cons_succ, List.setIfInBounds_toArray, List.set_cons_zero, List.set_cons_succ]
              refine wpAnyH_take (i := 11) (v := .bool false) rfl (by kernel_rfl) (by kernel_rfl) (by kernel_rfl) (fun _ _ _ h => h) (Or.inl ⟨by kernel_rfl, fun w _ => by go_simp⟩) SS ?_
              simp only [Act.put, List.getElem_toArray, List.getElem_cons_zero, List.getElem_cons_succ, List.setIfInBounds_toArray, List.set_cons_zero, List.set_cons_succ]
              refine wpAnyH_take (i := 12) (v := .bool false) rfl (by kernel_rfl) (by kernel_rfl) (by kernel_rfl) (fun _ _ _ h => h) (Or.inl ⟨by kernel_rfl, fun w _ => by go_simp⟩) SS ?_
              simp only [Act.put, List.getElem_toArray, List.getElem_cons_zero, List.getElem_cons_succ, List.setIfInBounds_toArray, List.set_cons_zero, List.set_cons_succ]
              refine wpAnyH_take (i := 13) (v := .bool false) rfl (by kernel_rfl) (by kernel_rfl) (by kernel_rfl) (fun _ _ _ h => h) (Or.inl ⟨by kernel_rfl, fun w _ => by go_simp⟩) SS ?_
              simp only [Act.put, List.getElem_toArray, List.getElem_cons_zero, List.getElem_cons_succ, List.setIfInBounds_toArray, List.set_cons_zero, List.set_cons_succ]
              refine wpAnyH_take (i := 14) (v := .bool false) rfl (by kernel_rfl) (by kernel_rfl) (by kernel_rfl) (fun _ _ _ h => h) (Or.inl ⟨by kernel_rfl, fun w _ => by go_simp⟩) SS ?_
              simp only [Act.put, List.getElem_toArray, List.getElem_cons_zero, List.getElem_cons_succ, List.setIfInBounds_toArray, List.set_cons_zero, List.set_cons_succ]
              refine wpAnyH_take (i := 15) (v := undef) rfl (by kernel_rfl) (by kernel_rfl) (by kernel_rfl) (fun _ _ _ h => h) (Or.inr ⟨by kernel_rfl, rfl⟩) SS ?_
              simp only [Act.put, List.getElem_toArray, List.getElem_cons_zero, List.getElem_cons_succ, List.setIfInBounds_toArray, List.set_cons_zero, List.set_cons_succ]
              refine wpAnyH_take (i := 16) (v := undef) rfl (by kernel_rfl) (by kernel_rfl) (by kernel_rfl) (fun _ _ _ h => h) (Or.inr ⟨by kernel_rfl, rfl⟩) SS ?_
              simp only [Act.put, List.getElem_toArray, List.getElem_cons_zero, List.getElem_cons_succ, List.setIfInBounds_toArray, List.set_cons_zero, List.set_cons_succ]
              refine wpAnyH_take (i := 17) (v := undef) rfl (by kernel_rfl) (by kernel_rfl) (by kernel_rfl) (fun _ _ _ h => h) (Or.inr ⟨by kernel_rfl, rfl⟩) SS ?_
              simp only [Act.put, List.getElem_toArray, List.getElem_cons_zero, List.getElem_cons_succ, List.setIfInBounds_toArray, List.set_cons_zero, List.set_cons_succ]
              refine wpAnyH_take (i := 18) (v := undef) rfl (by kernel_rfl) (by kernel_rfl) (by kernel_rfl) (fun _ _ _ h => h) (Or.inr ⟨by kernel_rfl, rfl⟩) SS ?_
              simp only [Act.put, List.getElem_toArray, List.getElem_cons_zero, List.getElem_cons_succ, List.setIfInBounds_toArray, List.set_cons_zero, List.set_cons_succ]
              refine wpAnyH_take (i := 19) (v := undef) rfl (by kernel_rfl) (by kernel_rfl) (by kernel_rfl) (fun _ _ _ h => h) (Or.inr ⟨by kernel_rfl, rfl⟩) SS ?_
              simp only [Act.put, List.getElem_toArray, List.getElem_cons_zero, List.getElem_cons_succ, List.setIfInBounds_toArray, List.set_cons_zero, List.set_cons_succ]
              refine wpAnyH_take (i := 20) (v := undef) rfl (by kernel_rfl) (by kernel_rfl) (by kernel_rfl) (fun _ _ _ h => h) (Or.inr ⟨by kernel_rfl, rfl⟩) SS ?_
              simp only [Act.put, List.getElem_toArray, List.getElem_cons_zero, List.getElem_cons_succ, List.setIfInBounds_toArray, List.set_cons_zero, List.set_cons_succ]
              refine wpAnyH_take (i := 21) (v := undef) rfl (by kernel_rfl) (by kernel_rfl) (by kernel_rfl) (fun _ _ _ h => h) (Or.inr ⟨by kernel_rfl, rfl⟩) SS ?_
              simp only [Act.put, List.getElem_toArray, List.getElem_cons_zero, List.getElem_cons_succ, List.setIfInBounds_toArray, List.set_cons_zero, List.set_cons_succ]
              refine wpAnyH_take (i := 22) (v := undef) rfl (by kernel_rfl) (by kernel_rfl) (by kernel_rfl) (fun _ _ _ h => h) (Or.inr ⟨by kernel_rfl, rfl⟩) SS ?_
              simp only [Act.put, List.getElem_toArray, List.getElem_cons_zero, List.getElem_cons_succ, List.setIfInBounds_toArray, List.set_cons_zero, List.set_cons_succ]
              refine wpAnyH_take (i := 23) (v := undef) rfl (by kernel_rfl) (by kernel_rfl) (by kernel_rfl) (fun _ _ _ h => h) (Or.inr ⟨by kernel_rfl, rfl⟩) SS ?_
              simp only [Act.put, List.getElem_toArray, List.getElem_cons_zero, List.getElem_cons_succ, List.setIfInBounds_toArray, List.set_cons_zero, List.set_cons_succ]
              refine wpAnyH_take (i := 24) (v := undef) rfl (by kernel_rfl) (by kernel_rfl) (by kernel_rfl) (fun _ _ _ h => h) (Or.inr ⟨by kernel_rfl, rfl⟩) SS ?_
              simp only [Act.put, List.getElem_toArray, List.getElem_cons_zero, List.getElem_cons_succ, List.setIfInBounds_toArray, List.set_cons_zero, List.set_cons_succ]
              refine wpAnyH_take (i := 25) (v := .bool false) rfl (by kernel_rfl) (by kernel_rfl) (by kernel_rfl) (fun _ _ _ h => h) (Or.inl ⟨by kernel_rfl, fun w _ => by go_simp⟩) SS ?_
              simp only [Act.put, List.getElem_toArray, List.getElem_cons_zero, List.getElem_cons_succ, List.setIfInBounds_toArray, List.set_cons_zero, List.set_cons_succ]
              refine wpAnyH_take (i := 26) (v := .bool false) rfl (by kernel_rfl) (by kernel_rfl) (by kernel_rfl) (fun _ _ _ h => h) (Or.inl ⟨by kernel_rfl, fun w _ => by go_simp⟩) SS ?_
              simp only [Act.put, List.getElem_toArray, List.getElem_cons_zero, List.getElem_cons_succ, List.setIfInBounds_toArray, List.set_cons_zero, List.set_cons_succ]
              refine wpAnyH_take (i := 27) (v := .bool false) rfl (by kernel_rfl) (by kernel_rfl) (by kernel_rfl) (fun _ _ _ h => h) (Or.inl ⟨by kernel_rfl, fun w _ => by go_simp⟩) SS ?_
              simp only [Act.put, List.getElem_toArray, List.getElem_cons_zero, List.getElem_cons_succ, List.setIfInBounds_toArray, List.set_cons_zero, List.set_cons_succ]
              refine wpAnyH_take (i := 28) (v := .agg (cl ML)) rfl (by kernel_rfl) (by kernel_rfl) (by kernel_rfl) (fun _ _ _ h => h) (yields_lload (g := g9) (.tmp 9) (by kernel_rfl) (by kernel_rfl) (by kernel_rfl) (fun _ h => h)) SS ?_
              simp only [Act.put, List.getElem_toArray, List.getElem_cons_zero, List.getElem_cons_succ, List.setIfInBounds_toArray, List.set_cons_zero, List.set_cons_succ]
              refine wpAnyH_take (i := 29) (v := .int .i64 (-1)) rfl (by kernel_rfl) (by kernel_rfl) (by kernel_rfl) (fun _ _ _ h => h) (Or.inl ⟨by kernel_rfl, fun w _ => by go_simp⟩) SS ?_
              simp only [Act.put, List.getElem_toArray, List.getElem_cons_zero, List.getElem_cons_succ, List.setIfInBounds_toArray, List.set_cons_zero, List.set_cons_succ]
              refine wpAnyH_take (i := 31) (v := .bool false) rfl (by kernel_rfl) (by kernel_rfl) (by kernel_rfl) (fun _ _ _ h => h) (Or.inl ⟨by kernel_rfl, fun w _ => by go_simp⟩) SS ?_
              simp only [Act.put, List.getElem_toArray, List.getElem_cons_zero, List.getElem_cons_succ, List.setIfInBounds_toArray, List.set_cons_zero, List.set_cons_succ]
              refine wpAnyH_ready (rs := [30]) (by kernel_rfl) (by simp) (AllReadyH.cons rfl (fun K hK => ?_) AllReadyH.nil)
              go_simp
              ((with_reducible refine KHAS.out.mono ?_); rintro e w21 ⟨rfl, b21⟩)
              have SS2 := SS.after b21
              have T21 := Lib.hid (T20d.out.trans (b21.mono T20d.out.size))
              rw [HLZ.out]
              refine hK _ _ SS2 (fun _ => ?_)
              clear hK K b21 KHAS
              refine wpAnyH_take (i := 32) (v := .bool false) rfl (by kernel_rfl) (by kernel_rfl) (by kernel_rfl) (fun _ _ _ h => h) (Or.inl ⟨by kernel_rfl, fun w _ => by go_simp⟩) SS2 ?_
              simp only [Act.put, List.getElem_toArray, List.getElem_cons_zero, List.getElem_cons_succ, List.setIfInBounds_toArray, List.set_cons_zero, List.set_cons_succ]
              refine wpAnyH_take (i := 33) (v := .bool false) rfl (by kernel_rfl) (by kernel_rfl) (by kernel_rfl) (fun _ _ _ h => h) (Or.inl ⟨by kernel_rfl, fun w _ => by go_simp⟩) SS2 ?_
              simp only [Act.put, List.getElem_toArray, List.getElem_cons_zero, List.getElem_cons_succ, List.setIfInBounds_toArray, List.set_cons_zero, List.set_cons_succ]
              refine wpAnyH_done (by kernel_rfl) ?_ _
              go_simp
              go_upto_region 24 with fail
              go_loopw [149] (fun y wr => ∃ c : Nat, c ≤ 0 ∧ y = .int .i64 c ∧ Hid (LArr wr g9 ML) ∧ Hid (Below w.heap.size w wr)) (fun y _ => 0)
              case atStart => exact ⟨0, Nat.le_refl _, rfl, Lib.hid SS2, T21⟩
              case round =>
                obtain ⟨c0, hc0, rfl, hN, hT⟩ := hrel
                obtain rfl : c0 = 0 := by omega
                go_wp2_with fail
                exact ⟨⟨t + 1, by have := HZ.out; omega, congrArg (Value.int .i64) (by have := HZ.out; omega), hN, hT⟩, by simp only [intOf]; omega⟩
            · subst hzz
              clear d1 d2
              go_upto_region 21 with fail
              have SS : LArr w20.drew g9 ML := N20.out.drew
              have T20d := Lib.hid T20.out.drew
              go_wp2_with fail
              refine wp_region_held_drew (S := (fun w2 => LArr w2 g9 ML)) (by kernel_rfl) SS (fun _ => ?_)
              refine wpAnyH_take (i := 0) (v := .bool false) rfl (by kernel_rfl) (by kernel_rfl) (by kernel_rfl) (fun _ _ _ h => h) (Or.inl ⟨by kernel_rfl, fun w _ => by go_simp⟩) SS ?_
              simp only [Act.put, List.getElem_toArray, List.getElem_cons_zero, List.setIfInBounds_toArray, List.set_cons_zero, List.set_cons_succ]
              refine wpAnyH_take (i := 1) (v := .int .i64 61) rfl (by kernel_rfl) (by kernel_rfl) (by kernel_rfl) (fun _ _ _ h => h) (Or.inl ⟨by kernel_rfl, fun w _ => by go_simp⟩) SS ?_
              simp only [Act.put, List.getElem_toArray, List.getElem_cons_zero, List.getElem_cons_succ, List.setIfInBounds_toArray, List.set_cons_zero, List.set_cons_succ]
              refine wpAnyH_take (i := 2) (v := .bool false) rfl (by kernel_rfl) (by kernel_rfl) (by kernel_rfl) (fun _ _ _ h => h) (Or.inl ⟨by kernel_rfl, fun w _ => by go_simp⟩) SS ?_
              simp only [Act.put, List.getElem_toArray, List.getElem_cons_zero, List.getElem_cons_succ, List.setIfInBounds_toArray, List.set_cons_zero, List.set_cons_succ]
              refine wpAnyH_take (i := 3) (v := .bool false) rfl (by kernel_rfl) (by kernel_rfl) (by kernel_rfl) (fun _ _ _ h => h) (Or.inl ⟨by kernel_rfl, fun w _ => by go_simp⟩) SS ?_
              simp only [Act.put, List.getElem_toArray, List.getElem_cons_zero, List.getElem_cons_succ, List.setIfInBounds_toArray, List.set_cons_zero, List.set_cons_succ]
              refine wpAnyH_take (i := 4) (v := .bool false) rfl (by kernel_rfl) (by kernel_rfl) (by kernel_rfl) (fun _ _ _ h => h) (Or.inl ⟨by kernel_rfl, fun w _ => by go_simp⟩) SS ?_
              simp only [Act.put, List.getElem_toArray, List.getElem_cons_zero, List.getElem_cons_succ, List.setIfInBounds_toArray, List.set_cons_zero, List.set_cons_succ]
              refine wpAnyH_take (i := 5) (v := .bool false) rfl (by kernel_rfl) (by kernel_rfl) (by kernel_rfl) (fun _ _ _ h => h) (Or.inl ⟨by kernel_rfl, fun w _ => by go_simp⟩) SS ?_
              simp only [Act.put, List.getElem_toArray, List.getElem_cons_zero, List.getElem_cons_succ, List.setIfInBounds_toArray, List.set_cons_zero, List.set_cons_succ]
              refine wpAnyH_take (i := 6) (v := .bool true) rfl (by kernel_rfl) (by kernel_rfl) (by kernel_rfl) (fun _ _ _ h => h) (Or.inl ⟨by kernel_rfl, fun w _ => by go_simp⟩) SS ?_
              simp only [Act.put, List.getElem_toArray, List.getElem_cons_zero, List.getElem_cons_succ, List.setIfInBounds_toArray, List.set_cons_zero, List.set_cons_succ]
              refine wpAnyH_take (i := 7) (v := .bool true) rfl (by kernel_rfl) (by kernel_rfl) (by kernel_rfl) (fun _ _ _ h => h) (Or.inl ⟨by kernel_rfl, fun w _ => by go_simp⟩) SS ?_
              simp only [Act.put, List.getElem_toArray, List.getElem_cons_zero, List.getElem_cons_succ, List.setIfInBounds_toArray, List.set_cons_zero, List.set_cons_succ]
              refine wpAnyH_take (i := 8) (v := .int .i64 61) rfl (by kernel_rfl) (by kernel_rfl) (by kernel_rfl) (fun _ _ _ h => h) (Or.inl ⟨by kernel_rfl, fun w _ => by go_simp⟩) SS ?_
              simp only [Act.put, List.getElem_toArray, List.getElem_cons_zero, List.getElem_cons_succ, List.setIfInBounds_toArray, List.set_cons_zero, List.set_cons_succ]
              refine wpAnyH_take (i := 9) (v := .bool false) rfl (by kernel_rfl) (by kernel_rfl) (by kernel_rfl) (fun _ _ _ h => h) (Or.inl ⟨by kernel_rfl, fun w _ => by go_simp⟩) SS ?_
              simp only [Act.put, List.getElem_toArray, List.getElem_cons_zero, List.getElem_cons_succ, List.setIfInBounds_toArray, List.set_cons_zero, List.set_cons_succ]
              refine wpAnyH_take (i := 10) (v := .bool false) rfl (by kernel_rfl) (by kernel_rfl) (by kernel_rfl) (fun _ _ _ h => h) (Or.inl ⟨by kernel_rfl, fun w _ => by go_simp⟩) SS ?_
              simp only [Act.put, List.getElem_toArray, List.getElem_cons_zero, List.getElem_cons_succ, List.setIfInBounds_toArray, List.set_cons_zero, List.set_cons_succ]
              refine wpAnyH_take (i := 11) (v := .bool false) rfl (by kernel_rfl) (by kernel_rfl) (by kernel_rfl) (fun _ _ _ h => h) (Or.inl ⟨by kernel_rfl, fun w _ => by go_simp⟩) SS ?_
              simp only [Act.put, List.getElem_toArray, List.getElem_cons_zero, List.getElem_cons_succ, List.setIfInBounds_toArray, List.set_cons_zero, List.set_cons_succ]
              refine wpAnyH_take (i := 12) (v := .bool false) rfl (by kernel_rfl) (by kernel_rfl) (by kernel_rfl) (fun _ _ _ h => h) (Or.inl ⟨by kernel_rfl, fun w _ => by go_simp⟩) SS ?_
              simp only [Act.put, List.getElem_toArray, List.getElem_cons_zero, List.getElem_cons_succ, List.setIfInBounds_toArray, List.set_cons_zero, List.set_cons_succ]
              refine wpAnyH_take (i := 13) (v := .bool false) rfl (by kernel_rfl) (by kernel_rfl) (by kernel_rfl) (fun _ _ _ h => h) (Or.inl ⟨by kernel_rfl, fun w _ => by go_simp⟩) SS ?_
              simp only [Act.put, List.getElem_toArray, List.getElem_cons_zero, List.getElem_cons_succ, List.setIfInBounds_toArray, List.set_cons_zero, List.set_cons_succ]
              refine wpAnyH_take (i := 14) (v := .bool false) rfl (by kernel_rfl) (by kernel_rfl) (by kernel_rfl) (fun _ _ _ h => h) (Or.inl ⟨by kernel_rfl, fun w _ => by go_simp⟩) SS ?_
              simp only [Act.put, List.getElem_toArray, List.getElem_cons_zero, List.getElem_cons_succ, List.setIfInBounds_toArray, List.set_cons_zero, List.set_cons_succ]
              refine wpAnyH_take (i := 15) (v := undef) rfl (by kernel_rfl) (by kernel_rfl) (by kernel_rfl) (fun _ _ _ h => h) (Or.inr ⟨by kernel_rfl, rfl⟩) SS ?_
              simp only [Act.put, List.getElem_toArray, List.getElem_cons_zero, List.getElem_cons_succ, List.setIfInBounds_toArray, List.set_cons_zero, List.set_cons_succ]
              refine wpAnyH_take (i := 16) (v := undef) rfl (by kernel_rfl) (by kernel_rfl) (by kernel_rfl) (fun _ _ _ h => h) (Or.inr ⟨by kernel_rfl, rfl⟩) SS ?_
              simp only [Act.put, List.getElem_toArray, List.getElem_cons_zero, List.getElem_cons_succ, List.setIfInBounds_toArray, List.set_cons_zero, List.set_cons_succ]
              refine wpAnyH_take (i := 17) (v := undef) rfl (by kernel_rfl) (by kernel_rfl) (by kernel_rfl) (fun _ _ _ h => h) (Or.inr ⟨by kernel_rfl, rfl⟩) SS ?_
              simp only [Act.put, List.getElem_toArray, List.getElem_cons_zero, List.getElem_cons_succ, List.setIfInBounds_toArray, List.set_cons_zero, List.set_cons_succ]
              refine wpAnyH_take (i := 18) (v := undef) rfl (by kernel_rfl) (by kernel_rfl) (by kernel_rfl) (fun _ _ _ h => h) (Or.inr ⟨by kernel_rfl, rfl⟩) SS ?_
              simp only [Act.put, List.getElem_toArray, List.getElem_cons_zero, List.getElem_cons_succ, List.setIfInBounds_toArray, List.set_cons_zero, List.set_cons_succ]
              refine wpAnyH_take (i := 19) (v := undef) rfl (by kernel_rfl) (by kernel_rfl) (by kernel_rfl) (fun _ _ _ h => h) (Or.inr ⟨by kernel_rfl, rfl⟩) SS ?_
              simp only [Act.put, List.getElem_toArray, List.getElem_cons_zero, List.getElem_cons_succ, List.setIfInBounds_toArray, List.set_cons_zero, List.set_cons_succ]
              refine wpAnyH_take (i := 20) (v := undef) rfl (by kernel_rfl) (by kernel_rfl) (by kernel_rfl) (fun _ _ _ h => h) (Or.inr ⟨by kernel_rfl, rfl⟩) SS ?_
              simp only [Act.put, List.getElem_toArray, List.getElem_cons_zero, List.getElem_cons_succ, List.setIfInBounds_toArray, List.set_cons_zero, List.set_cons_succ]
              refine wpAnyH_take (i := 21) (v := undef) rfl (by kernel_rfl) (by kernel_rfl) (by kernel_rfl) (fun _ _ _ h => h) (Or.inr ⟨by kernel_rfl, rfl⟩) SS ?_
              simp only [Act.put, List.getElem_toArray, List.getElem_cons_zero, List.getElem_cons_succ, List.setIfInBounds_toArray, List.set_cons_zero, List.set_cons_succ]
              refine wpAnyH_take (i := 22) (v := undef) rfl (by kernel_rfl) (by kernel_rfl) (by kernel_rfl) (fun _ _ _ h => h) (Or.inr ⟨by kernel_rfl, rfl⟩) SS ?_
              simp only [Act.put, List.getElem_toArray, List.getElem_cons_zero, List.getElem_cons_succ, List.setIfInBounds_toArray, List.set_cons_zero, List.set_cons_succ]
              refine wpAnyH_take (i := 23) (v := undef) rfl (by kernel_rfl) (by kernel_rfl) (by kernel_rfl) (fun _ _ _ h => h) (Or.inr ⟨by kernel_rfl, rfl⟩) SS ?_
              simp only [Act.put, List.getElem_toArray, List.getElem_cons_zero, List.getElem_cons_succ, List.setIfInBounds_toArray, List.set_cons_zero, List.set_cons_succ]
              refine wpAnyH_take (i := 24) (v := undef) rfl (by kernel_rfl) (by kernel_rfl) (by kernel_rfl) (fun _ _ _ h => h) (Or.inr ⟨by kernel_rfl, rfl⟩) SS ?_
              simp only [Act.put, List.getElem_toArray, List.getElem_cons_zero, List.getElem_cons_succ, List.setIfInBounds_toArray, List.set_cons_zero, List.set_cons_succ]
              refine wpAnyH_take (i := 25) (v := .bool false) rfl (by kernel_rfl) (by kernel_rfl) (by kernel_rfl) (fun _ _ _ h => h) (Or.inl ⟨by kernel_rfl, fun w _ => by go_simp⟩) SS ?_
              simp only [Act.put, List.getElem_toArray, List.getElem_cons_zero, List.getElem_cons_succ, List.setIfInBounds_toArray, List.set_cons_zero, List.set_cons_succ]
              refine wpAnyH_take (i := 26) (v := .bool false) rfl (by kernel_rfl) (by kernel_rfl) (by kernel_rfl) (fun _ _ _ h => h) (Or.inl ⟨by kernel_rfl, fun w _ => by go_simp⟩) SS ?_
              simp only [Act.put, List.getElem_toArray, List.getElem_cons_zero, List.getElem_cons_succ, List.setIfInBounds_toArray, List.set_cons_zero, List.set_cons_succ]
              refine wpAnyH_take (i := 27) (v := .bool false) rfl (by kernel_rfl) (by kernel_rfl) (by kernel_rfl) (fun _ _ _ h => h) (Or.inl ⟨by kernel_rfl, fun w _ => by go_simp⟩) SS ?_
              simp only [Act.put, List.getElem_toArray, List.getElem_cons_zero, List.getElem_cons_succ, List.setIfInBounds_toArray, List.set_cons_zero, List.set_cons_succ]
              refine wpAnyH_take (i := 28) (v := .agg (cl ML)) rfl (by kernel_rfl) (by kernel_rfl) (by kernel_rfl) (fun _ _ _ h => h) (yields_lload (g := g9) (.tmp 9) (by kernel_rfl) (by kernel_rfl) (by kernel_rfl) (fun _ h => h)) SS ?_
              simp only [Act.put, List.getElem_toArray, List.getElem_cons_zero, List.getElem_cons_succ, List.setIfInBounds_toArray, List.set_cons_zero, List.set_cons_succ]
              refine wpAnyH_take (i := 29) (v := .int .i64 256) rfl (by kernel_rfl) (by kernel_rfl) (by kernel_rfl) (fun _ _ _ h => h) (Or.inl ⟨by kernel_rfl, fun w _ => by go_simp⟩) SS ?_
              simp only [Act.put, List.getElem_toArray, List.getElem_cons_zero, List.getElem_cons_succ, List.setIfInBounds_toArray, List.set_cons_zero, List.set_cons_succ]
              refine wpAnyH_take (i := 31) (v := .bool false) rfl (by kernel_rfl) (by kernel_rfl) (by kernel_rfl) (fun _ _ _ h => h) (Or.inl ⟨by kernel_rfl, fun w _ => by go_simp⟩) SS ?_
              simp only [Act.put, List.getElem_toArray, List.getElem_cons_zero, List.getElem_cons_succ, List.setIfInBounds_toArray, List.set_cons_zero, List.set_cons_succ]
              refine wpAnyH_ready (rs := [30]) (by kernel_rfl) (by simp) (AllReadyH.cons rfl (fun K hK => ?_) AllReadyH.nil)
              go_simp
              ((with_reducible refine KHAS.out.mono ?_); rintro e w21 ⟨rfl, b21⟩)
              have SS2 := SS.after b21
              have T21 := Lib.hid (T20d.out.trans (b21.mono T20d.out.size))
              rw [HLZ.out]
              refine hK _ _ SS2 (fun _ => ?_)
              clear hK K b21 KHAS
              refine wpAnyH_take (i := 32) (v := .bool false) rfl (by kernel_rfl) (by kernel_rfl) (by kernel_rfl) (fun _ _ _ h => h) (Or.inl ⟨by kernel_rfl, fun w _ => by go_simp⟩) SS2 ?_
              simp only [Act.put, List.getElem_toArray, List.getElem_cons_zero, List.getElem_cons_succ, List.setIfInBounds_toArray, List.set_cons_zero, List.set_cons_succ]
              refine wpAnyH_take (i := 33) (v := .bool false) rfl (by kernel_rfl) (by kernel_rfl) (by kernel_rfl) (fun _ _ _ h => h) (Or.inl ⟨by kernel_rfl, fun w _ => by go_simp⟩) SS2 ?_
              simp only [Act.put, List.getElem_toArray, List.getElem_cons_zero, List.getElem_cons_succ, List.setIfInBounds_toArray, List.set_cons_zero, List.set_cons_succ]
              refine wpAnyH_done (by kernel_rfl) ?_ _
              go_simp
              go_upto_region 24 with fail
              go_loopw [149] (fun y wr => ∃ c : Nat, c ≤ 0 ∧ y = .int .i64 c ∧ Hid (LArr wr g9 ML) ∧ Hid (Below w.heap.size w wr)) (fun y _ => 0)
              case atStart => exact ⟨0, Nat.le_refl _, rfl, Lib.hid SS2, T21⟩
              case round =>
                obtain ⟨c0, hc0, rfl, hN, hT⟩ := hrel
                obtain rfl : c0 = 0 := by omega
                go_wp2_with fail
                exact ⟨⟨t + 1, by have := HZ.out; omega, congrArg (Value.int .i64) (by have := HZ.out; omega), hN, hT⟩, by simp only [intOf]; omega⟩
        · have d1 : decide (z ≤ 256) = false := decide_eq_false hlt
          go_wp2_with fail
          go_ret
          exact ⟨rfl, hT.out⟩
end Go.Proofs.Ytppodbijdhcclaa

