/- Several texts of the proof, joined: what each has is said at its head. -/
import Derived.Test.YtdiocjneakfdgaaGreatDoorQNandA
import Derived.Maps.OwnSet
import Derived.Deep.RegionHeld3
/- The contracts of the program's power. Condition at an act: it is on; the number of acts is one of the machine. -/
namespace Go.Proofs.YtdiocjneakfdgaaGreatDoor
open Go.RowKit
/-- in block p lies the program's power, which is as s -/
def PPow (w : World) (p : Nat) (s : NM.Pwr) : Prop := ∃ (ends : Bool) (a k : Int), Blk w p 106 [.bool s.off, .bool ends, .int .i64 a, .int .i64 k] ∧ (s.off = false → (ends = false ∧ s.after < 0) ∨ (ends = true ∧ a = s.after ∧ 0 ≤ a ∧ k = s.keep))
section
variable {w w' : World} {p : Nat} {s : NM.Pwr}
theorem PPow.lt (h : PPow w p s) : p < w.heap.size := by
  obtain ⟨_, _, _, h, _⟩ := h
  exact h.lt
theorem PPow.after (h : PPow w p s) (hb : Below w.heap.size w w') : PPow w' p s := by
  obtain ⟨e, a, k, h, r⟩ := h
  exact ⟨e, a, k, h.after hb, r⟩
theorem PPow.alloc (h : PPow w p s) (o : Obj) : PPow (w.alloc o) p s := h.after ((Below.refl _ _).alloc (Nat.le_refl _) o)
theorem PPow.drew (h : PPow w p s) : PPow w.drew p s := h
end
theorem off_any (p : Nat) (s : NM.Pwr) (w : World) (h : PPow w p s) : Calls Tryz.prog 117 #[.pointer (some ⟨p, 0, none⟩)] w fun e w' => e = .returned (.bool s.off) ∧ w = w' := by
  obtain ⟨ends, a0, k0, h0, hr⟩ := h
  have c0 : w.cell? ⟨p, 0, none⟩ = some (.bool s.off) := h0.cell 0
  clear h0 hr
  go_enter Tryz.func117, Tryz.ntmps117
  go_wp2
  go_ret
  exact ⟨rfl, rfl⟩
set_option maxHeartbeats 2000000 in
theorem draw_any (p : Nat) (s : NM.Pwr) (hs : s.fits) (hoff : s.off = false) (w : World) (h : PPow w p s) :
    Calls Tryz.prog 124 #[.pointer (some ⟨p, 0, none⟩)] w fun e w' => e = .returned (.tuple #[.int .i64 (if s.act.2 then s.keep else 0), .bool s.act.2]) ∧ PPow w' p s.act.1 ∧ w.grownBy w' (some p) := by
  have h' := h
  obtain ⟨ends, a0, k0, h0, hr⟩ := h
  obtain ⟨off, af, kp⟩ := s
  simp only at hoff h0 hr
  subst hoff
  rcases hr rfl with ⟨rfl, ha⟩ | ⟨rfl, rfl, ha, rfl⟩
  · have hact : NM.Pwr.act ⟨false, af, kp⟩ = (⟨false, af, kp⟩, false) := by unfold NM.Pwr.act; rw [if_pos ha]
    rw [hact]
    have H := Lib.hid h'
    clear hr ha h' hact
    go_enter Tryz.func124, Tryz.ntmps124
    go_wp2_with (with_reducible refine wpl_blk_load bool_flat (.tmp 6) rfl rfl h0 1 rfl rfl ?_)
    go_ret2
    exact ⟨rfl, H.out, World.grownBy.refl w _⟩
  · obtain ⟨hs1, hs2⟩ := hs
    simp only at hs1 hs2
    by_cases hz : a0 = 0
    · subst hz
      have hact : NM.Pwr.act ⟨false, 0, k0⟩ = (⟨true, -1, k0⟩, true) := by unfold NM.Pwr.act; rw [if_neg (by simp)]; simp
      rw [hact]
      clear hr h' hact
      go_enter Tryz.func124, Tryz.ntmps124
      go_wp2_with (first | (with_reducible refine wpl_blk_load bool_flat (.tmp 6) rfl rfl h0 1 rfl rfl ?_) | (with_reducible refine wpl_blk_load int_flat (.tmp 11) rfl rfl h0 2 rfl rfl ?_) | (with_reducible refine wpl_blk_bool true bool_one (.tmp 23) (.const (.bool true)) rfl rfl h0 0 (by simp) rfl rfl [.bool true, .bool true, .int .i64 0, .int .i64 k0] rfl ?_; intro w1 h1 g1 e1) | (with_reducible refine wpl_blk_load int_flat (.tmp 26) rfl rfl h1 3 rfl rfl ?_))
      go_ret2
      exact ⟨rfl, ⟨true, 0, k0, h1, fun e => by cases e⟩, g1⟩
    · have hpos : 0 < a0 := by omega
      have hact : NM.Pwr.act ⟨false, a0, k0⟩ = (⟨false, a0 - 1, k0⟩, false) := by unfold NM.Pwr.act; rw [if_neg (by simp; omega)]; simp [hz]
      rw [hact]
      have d1 : decide (0 < a0) = true := by simp [hpos]
      have hw : IntKind.i64.wrap (a0 - 1) = a0 - 1 := by rw [IntKind.wrap_i64]; omega
      have HP := Lib.hid hpos
      clear hr h' hact hz hpos ha
      go_enter Tryz.func124, Tryz.ntmps124
      go_wp2_with (first | (with_reducible refine wpl_blk_load bool_flat (.tmp 6) rfl rfl h0 1 rfl rfl ?_) | (with_reducible refine wpl_blk_load int_flat (.tmp 11) rfl rfl h0 2 rfl rfl ?_) | (with_reducible refine wpl_blk_load int_flat (.tmp 16) rfl rfl h0 2 rfl rfl ?_) | (with_reducible refine wpl_blk_int .i64 (a0 - 1) int_one (.tmp 20) (.tmp 18) rfl rfl h0 2 (by simp) rfl rfl [.bool false, .bool true, .int .i64 (a0 - 1), .int .i64 k0] rfl ?_; intro w1 h1 g1 e1))
      go_ret2
      exact ⟨rfl, ⟨true, a0 - 1, k0, h1, fun _ => .inr ⟨rfl, rfl, by have := HP.out; simp; omega, rfl⟩⟩, g1⟩
end Go.Proofs.YtdiocjneakfdgaaGreatDoor

/- Which acts are to fail: the contract of count. Condition: fewer than 2^62 acts. -/
namespace Go.Proofs.YtdiocjneakfdgaaGreatDoor
open Go.RowKit Go.Maps
/-- what of w is as it was in w': all that was there, but the blocks of which S speaks -/
structure Chg (w w' : World) (S : Nat → Prop) : Prop where
  os : w'.os = w.os
  tape : w'.tape = w.tape
  output : w'.output = w.output
  size : w.heap.size ≤ w'.heap.size
  block : ∀ k, k < w.heap.size → ¬ S k → w'.heap[k]? = w.heap[k]?
section
variable {w w' w2 : World} {S T : Nat → Prop}
theorem Chg.refl (w : World) (S : Nat → Prop) : Chg w w S := ⟨rfl, rfl, rfl, Nat.le_refl _, fun _ _ _ => rfl⟩
theorem Chg.trans (h : Chg w w' S) (k : Chg w' w2 S) : Chg w w2 S :=
  ⟨k.os.trans h.os, k.tape.trans h.tape, k.output.trans h.output, Nat.le_trans h.size k.size, fun i hi hs => (k.block i (Nat.lt_of_lt_of_le hi h.size) hs).trans (h.block i hi hs)⟩
theorem Chg.more (h : Chg w w' S) (hS : ∀ k, k < w.heap.size → S k → T k) : Chg w w' T := ⟨h.os, h.tape, h.output, h.size, fun k hk hs => h.block k hk (fun e => hs (hS k hk e))⟩
theorem Chg.of_grown {r : Option Nat} (h : w.grownBy w' r) (hr : ∀ k, some k = r → S k) : Chg w w' S := ⟨h.os, h.tape, h.output, h.size, fun k hk hs => h.block k hk (fun e => hs (hr k e))⟩
theorem Chg.of_below (h : Below w.heap.size w w') : Chg w w' S := ⟨h.os, h.tape, h.output, h.size, fun k hk _ => h.block k hk⟩
theorem Chg.below {B : Nat} (h : Chg w w' S) (hS : ∀ k, S k → B ≤ k) (hB : B ≤ w.heap.size) : Below B w w' := ⟨h.os, h.tape, h.output, h.size, fun k hk => h.block k (by omega) (fun e => by have := hS k e; omega)⟩
theorem Blk.chg {g : Nat} {t : TypeId} {cs : List Value} (h : Blk w g t cs) (hc : Chg w w' S) (hg : ¬ S g) : Blk w' g t cs := (hc.block g h.lt hg).trans h
theorem BG.chg {g : Nat} {Bs : List Bk} (h : BG w g Bs) (hc : Chg w w' S) (hg : ¬ S g) : BG w' g Bs := ⟨h.1.chg hc hg, h.2⟩
theorem PPow.chg {p : Nat} {s : NM.Pwr} (h : PPow w p s) (hc : Chg w w' S) (hg : ¬ S p) : PPow w' p s := by
  obtain ⟨e, a, k, h, r⟩ := h
  exact ⟨e, a, k, h.chg hc hg, r⟩
theorem PArr.chg {g : Nat} {L : List UInt8} (h : PArr w g L) (hc : Chg w w' S) (hg : ¬ S g) : PArr w' g L := ⟨(hc.block g h.lt hg).trans h.1, h.2⟩
end
abbrev DU := DataW Unit
theorem intKeyed : Keyed Tryz.prog 3 := int_keyed Tryz.underlying3
theorem zeroUnit (w : World) : (zeroValue 112).run Tryz.prog w = .ok (.agg #[]) w := by kernel_rfl
/-- v tells which of the acts from the number d on fail: mb is the map's block -/
def Flt (w : World) (v : Value) (mb : Option Nat) (d : Nat) (f : Int → Bool) : Prop :=
  (v = .map none ∧ mb = none ∧ ∀ i : Int, (d : Int) ≤ i → f i = false) ∨
  ∃ b n, ∃ D : DU, v = .map (some b) ∧ mb = some b ∧ w.ownsMap Tryz.prog 3 unitElem b n D ∧ n ≤ 1000 ∧ ∀ i : Int, (d : Int) ≤ i → Maps.has D (.int .i64 i) = f i
section
variable {w w' : World} {v : Value} {mb : Option Nat} {d : Nat} {f : Int → Bool}
theorem Flt.chg {S : Nat → Prop} (h : Flt w v mb d f) (hc : Chg w w' S) (hs : ∀ b, mb = some b → ¬ S b) : Flt w' v mb d f := by
  rcases h with h | ⟨b, n, D, h1, h2, h3, h4, h5⟩
  · exact .inl h
  · refine .inr ⟨b, n, D, h1, h2, ?_, h4, h5⟩
    obtain ⟨es, cl, hb, r⟩ := h3
    exact ⟨es, cl, (hc.block b (World.ownsMap.lt ⟨es, cl, hb, r⟩) (hs b h2)).trans hb, r⟩
theorem Flt.lt (h : Flt w v mb d f) : ∀ b, mb = some b → b < w.heap.size := fun b e => by
  rcases h with ⟨_, h, _⟩ | ⟨b', n, D, _, h2, h3, _⟩
  · rw [h] at e; cases e
  · rw [h2] at e; cases e; exact h3.lt
theorem key_wf {d : Nat} (hd : d < 4611686018427387904) : keyOf Tryz.prog 3 (.int .i64 (d : Int)) = some (.int .i64 (d : Int)) := keyOf_int_mk Tryz.underlying3 (by
  simp only [Lit.wf, Bool.and_eq_true, IntKind.min, IntKind.max, IntKind.signed, IntKind.bits]
  simp
  omega)
theorem Flt.look (h : Flt w v mb d f) (hd : d < 4611686018427387904) : (Instr.lookup 71 v (.int .i64 (d : Int)) true).run Tryz.prog w = .ok (.tuple #[.agg #[], .bool (f d)]) w := by
  rcases h with ⟨h1, _, h2⟩ | ⟨b, n, D, h1, _, h3, _, h5⟩
  · subst h1
    rw [h2 d (Int.le_refl _)]
    have := Maps.look_nil (w := w) true intKeyed Tryz.underlying71 (zeroUnit w) (key_wf hd)
    simpa using this
  · subst h1
    obtain ⟨u, ps, hrun, hv⟩ := h3.look_ok intKeyed Tryz.underlying71 (zeroUnit w) (unitElem_mk (H := Unit)) (key_wf hd)
    obtain ⟨rfl, _⟩ := unitElem_inv hv
    rw [h5 d (Int.le_refl _)] at hrun
    exact hrun
theorem Flt.drop (h : Flt w v mb d f) (hd : d < 4611686018427387904) (ty : TypeId) : ∃ w', (Builtin.delete_ #[71, 3] ty #[v, .int .i64 (d : Int)]).run Tryz.prog w = .ok (.tuple #[]) w' ∧ Flt w' v mb (d + 1) f ∧ Chg w w' (fun k => mb = some k) ∧ w'.heap.size = w.heap.size := by
  rcases h with ⟨h1, h0, h2⟩ | ⟨b, n, D, h1, h0, h3, h4, h5⟩
  · subst h1
    exact ⟨w, Maps.drop_nil intKeyed Tryz.underlying71 (key_wf hd) ty, .inl ⟨rfl, h0, fun i hi => h2 i (by omega)⟩, Chg.refl w _, rfl⟩
  · subst h1
    obtain ⟨w', hrun, r1, r2⟩ := h3.drop intKeyed Tryz.underlying71 (key_wf hd) ty
    have hg := r2.grown
    refine ⟨w', hrun, .inr ⟨b, n, _, rfl, h0, r1, h4, fun i hi => ?_⟩, Chg.of_grown hg (fun k e => by rw [h0]; exact e.symm), ?_⟩
    · rw [has_del_other (by intro e; have := (Lit.int.inj e).2; omega)]
      exact h5 i (by omega)
    · obtain ⟨_, _, _, _, _, rfl⟩ := r2
      simp [ChangeMaps.setBlock]
end
/-- delete at a step of a region that draws its order -/
theorem step_drop {w : World} {v : Value} {mb : Option Nat} {d : Nat} {f : Int → Bool} {ops : Array Oper} {o : Oper} {a : Act} {K : Act → World → Prop} {Q : Exit → Act → World → Prop} {F : Prop} (hgd : Region.wanted o (yielded ops a.tmps) = true) (m x : Operand)
    (ho : o.op = .call { callee := .builtin .delete, args := #[m, x], argTypes := #[71, 3] }) (h : Flt w v mb d f) (hd : d < 4611686018427387904) (hm : a.eval m = v) (hx : a.eval x = .int .i64 (d : Int))
    (hK : ∀ w', Flt w' v mb (d + 1) f → Chg w w' (fun k => mb = some k) → w'.heap.size = w.heap.size → K (a.put o.dst (.tuple #[])) w') :
    if Region.wanted o (yielded ops a.tmps) = true then Oper.wp Tryz.prog o a w K Q else F := by
  rw [if_pos hgd]
  obtain ⟨w', hrun, h1, h2, h3⟩ := h.drop hd o.type
  unfold Oper.wp execOp
  simp only [ho, resolve, invoke, builtin, Sem.run_bind, Sem.run_pure, Result.andThen_ok, List.map_toArray, List.map_cons, List.map_nil, hm, hx, hrun]
  exact hK w' h1 h2 h3
set_option maxRecDepth 100000 in
set_option maxHeartbeats 4000000 in
theorem count_any (c o : Nat) (cs : List Value) (v : Value) (mb : Option Nat) (d : Nat) (f : Int → Bool) (hd : d < 4611686018427387904) (w : World) (hB : Blk w c 77 cs) (h0 : cs[o]? = some (.int .i64 (d : Int))) (h1 : cs[o + 1]? = some v) (hF : Flt w v mb d f) (hcm : ∀ b, mb = some b → b ≠ c) :
    Calls Tryz.prog 123 #[.pointer (some ⟨c, o, none⟩)] w fun e w' => e = .returned (.bool (f d)) ∧ Blk w' c 77 (cs.set o (.int .i64 ((d + 1 : Nat) : Int))) ∧ Flt w' v mb (d + 1) f ∧ Chg w w' (fun k => k = c ∨ mb = some k) := by
  have HB := Lib.hid hB
  have HF := Lib.hid hF
  have HS : Hid (∀ w', Below w.heap.size w w' → w'.cell? ⟨c, o, none⟩ = some (.int .i64 (d : Int)) ∧ w'.cell? ⟨c, o + 1, none⟩ = some v ∧ (Instr.lookup 71 v (.int .i64 (d : Int)) true).run Tryz.prog w' = .ok (.tuple #[.agg #[], .bool (f d)]) w') :=
    Lib.hid (fun w' hb => ⟨((HB.out.after hb).cell o).trans h0, ((HB.out.after hb).cell (o + 1)).trans h1, (HF.out.chg (S := fun _ => False) (Chg.of_below hb) (fun _ _ => id)).look hd⟩)
  have z0 := zeroUnit
  have b1 : Below w.heap.size w w.drew := (Below.refl _ _).drew
  have b2 : Below w.heap.size w (w.alloc (.cells #[] 112)).drew := ((Below.refl _ _).alloc (Nat.le_refl _) _).drew
  clear hB hF
  go_enter Tryz.func123, Tryz.ntmps123
  go_wp2_with fail
  go_region_held3 (fun w' => w'.cell? ⟨c, o, none⟩ = some (.int .i64 (d : Int)) ∧ w'.cell? ⟨c, o + 1, none⟩ = some v ∧ (Instr.lookup 71 v (.int .i64 (d : Int)) true).run Tryz.prog w' = .ok (.tuple #[.agg #[], .bool (f d)]) w')
    (first | exact HS.out _ b1 | exact HS.out _ b2) (fail)
  all_goals
    have b3 : Below w.heap.size w (w.alloc (.cells #[] 112)).drew.drew := b2.drew
    have F3 : Hid (Flt (w.alloc (.cells #[] 112)).drew.drew v mb d f) := Lib.hid (HF.out.chg (S := fun _ => False) (Chg.of_below b3) (fun _ _ => id))
    go_wp2_with fail
    go_region_held3 (fun w' => w'.cell? ⟨c, o, none⟩ = some (.int .i64 (d : Int)) ∧ w'.cell? ⟨c, o + 1, none⟩ = some v)
      (first | exact ⟨(HS.out _ b3).1, (HS.out _ b3).2.1⟩ | exact c7) ((refine step_drop (by rfl) (.tmp 20) (.tmp 24) (by rfl) F3.out hd (by rfl) (by rfl) ?_; intro w7 F7 g7 e7; have B7 := (HB.out.after b3).chg g7 (fun e => hcm c e rfl); have c7 : w7.cell? ⟨c, o, none⟩ = some (.int .i64 (d : Int)) ∧ w7.cell? ⟨c, o + 1, none⟩ = some v := ⟨(B7.cell o).trans h0, (B7.cell (o + 1)).trans h1⟩))
    have ho : o < cs.length := by
      rcases Nat.lt_or_ge o cs.length with h | h
      · exact h
      · rw [List.getElem?_eq_none h] at h0; cases h0
    have hw : IntKind.i64.wrap ((d : Int) + 1) = (d : Int) + 1 := by rw [IntKind.wrap_i64]; omega
    have HF7 := Lib.hid F7
    have HG7 : Hid (Chg w w7 (fun k => k = c ∨ mb = some k)) := Lib.hid ((Chg.of_below b3).trans (g7.more (fun k _ h => .inr h)))
    have hcs : cs.set o (.int .i64 ((d : Int) + 1)) = cs.set o (.int .i64 ((d + 1 : Nat) : Int)) := rfl
    clear g7 e7 F7 F3 b3 c7
    go_wp2_with (first | (with_reducible refine wpl_blk_load int_flat (.tmp 27) rfl rfl B7 o h0 rfl ?_) | (with_reducible refine wpl_blk_int .i64 ((d : Int) + 1) int_one (.tmp 31) (.tmp 29) rfl rfl B7 o ho rfl rfl _ hcs ?_; intro w8 B8 g8 e8))
    go_ret
    refine ⟨rfl, B8, HF7.out.chg (S := fun k => k = c) (Chg.of_grown g8 (fun k e => Option.some.inj e)) (fun b h => hcm b h), HG7.out.trans (Chg.of_grown g8 (fun k e => .inl (Option.some.inj e)))⟩
end Go.Proofs.YtdiocjneakfdgaaGreatDoor

