/- Several texts of the proof, joined: what each has is said at its head. -/
import Derived.Test.YtaafelhjcmgkdaaGreatDoorQDiskF
import Derived.Test.YtaafelhjcmgkdaaGreatDoorQDiskE
/- The laws' own Program at both disks. Condition: the disk's answers are those of its contract. -/
namespace Go.Proofs.YtaafelhjcmgkdaaGreatDoor
open Go.RowKit
theorem RG.setCell {w : World} {g : Nat} {Bs : List RB} (h : RG w g Bs) {b : Nat} (hb : b < Bs.length) {i : Nat} (hi : i < 2074) (v : Value) {B' : RB} (hr : (Bs[b]).row.set i v = B'.row) : (Bs.map RB.row).flatten.set (b * 2074 + i) v = ((Bs.set b B').map RB.row).flatten := by
  have hf := NM.flat_set (n := 2074) _ h.rows b (by simpa using hb) i v hi
  rw [hf]
  have e : (Bs.map RB.row).set b (((Bs.map RB.row)[b]'(by simpa using hb)).set i v) = (Bs.set b B').map RB.row := by
    rw [List.map_set, List.getElem_map, hr]
  rw [e]
theorem yields_ploadb {ops : Array Oper} {o : Oper} {a : Act} {g : Nat} {L : List UInt8} {S : World → Prop} (x : Operand) (ho : o.op = .load 54 x) (hgd : Region.wanted o (yielded ops a.tmps) = true)
    (hx : a.eval x = .pointer (some ⟨g, 0, none⟩)) (hS : ∀ w, S w → PArr w g L) : YieldsIf Tryz.prog ops S o (.agg (bv L).toArray) a := by
  rw [← cl_bv]
  exact yields_pload x ho hgd hx hS
/-- the page that a step means -/
def kOf (o : Op7) (Bs : List RB) : Int := if o.next && there 24 o.b 0 then ((Bs.getD o.b.toNat RB.blank).nx : Int) else o.p
/-- a block of the document's disk behind a Program -/
def stepB (B : RB) (k : Nat) (p : List UInt8) (ok : Bool) : RB := ((B.setNx (k + 1)).setPage k p).setSure k ok
theorem stepB_ok {B : RB} (h : B.ok) (k : Nat) {p : List UInt8} (hp : p.length = 258) (ok : Bool) : (stepB B k p ok).ok := RB.setSure_ok (RB.setPage_ok (RB.setNx_ok h _) k hp) k ok
section
variable {w : World} {m g d : Nat} {Bs : List RB} {o : Op7} {T : Nat → Prop} {R : Int → World → Prop}
set_option maxRecDepth 100000 in
set_option maxHeartbeats 64000000 in
theorem dprog_no (hT : ∀ j, T j → j < w.heap.size) (hR : RD w m g Bs) (hl : Bs.length = 18) (y : UInt8) (hy : o.byte = ((y.toNat : Nat) : Int)) (j : Nat) (hj : j < 60) (ht : Tab w)
    (k : Int) (hk : k = kOf o Bs)
    (kP : ∀ W, Below w.heap.size w W → Calls Tryz.prog 22 #[.pointer (some ⟨d, 0, none⟩), .int .i64 o.b, .int .i64 k, .agg (cl (lpg y (UInt8.ofNat j)))] W fun er W' => ∃ r, er = .returned (.int .i64 r) ∧ R r W' ∧ RD W' m g Bs ∧ Chg W W' T)
    (hno : there 24 o.b k = false) (h1 : ∀ r W, R r W → r = 1) :
    Calls Tryz.prog 9 #[.pointer (some ⟨d, 0, none⟩), .pointer (some ⟨m, 0, none⟩), .agg o.row.toArray, .int .i64 (j : Int)] w fun e w' => e = .returned (.tuple #[.int .i64 1, .bool true]) ∧ R 1 w' ∧ RD w' m g Bs ∧ Chg w w' T := by
  have z := zeroPage
  have b0 : Below w.heap.size w (w.alloc (.cells o.row.toArray 35)) := (Below.refl _ _).alloc (Nat.le_refl _) _
  have O0 : Blk (w.alloc (.cells o.row.toArray 35)) w.heap.size 35 o.row := Blk.new w _ o.row
  have c1 : (w.alloc (.cells o.row.toArray 35)).cell? ⟨w.heap.size, 1, none⟩ = some (.int .i64 o.b) := O0.cell 1
  have c2 : (w.alloc (.cells o.row.toArray 35)).cell? ⟨w.heap.size, 2, none⟩ = some (.int .i64 o.p) := O0.cell 2
  have c6 : (w.alloc (.cells o.row.toArray 35)).cell? ⟨w.heap.size, 6, none⟩ = some (.bool o.next) := O0.cell 6
  have c5 : (w.alloc (.cells o.row.toArray 35)).cell? ⟨w.heap.size, 5, none⟩ = some (.int .u8 ((y.toNat : Nat) : Int)) := by rw [← hy]; exact O0.cell 5
  have h0 := there_any (hR.after b0) hl o.b 0
  have hsl0 := (hR.after b0).sl
  rw [hl] at hsl0
  have HT := Lib.hid hT
  have HR := Lib.hid hR
  have HL := Lib.hid hl
  have HTB := Lib.hid ht
  have KP := Lib.hid kP
  have HB0 := Lib.hid b0
  have HO := Lib.hid O0
  have HJ := Lib.hid hj
  have HPL := Lib.hid (lpg_length y (UInt8.ofNat j))
  have hj60 : (j : Int) < 60 := by omega
  obtain ⟨p, hp⟩ : ∃ p, p = lpg y (UInt8.ofNat j) := ⟨_, rfl⟩
  have kpg := fun (W : World) (hW : Below w.heap.size w W) => page_any y (j : Int) (UInt8.ofNat j) (wrap_byte (by omega)) W (ht.below hW ht.lt)
  rw [← hp] at KP HPL kpg
  have HNO := Lib.hid hno
  have H1 := Lib.hid h1
  clear hno h1
  have KG := Lib.hid kpg
  have HPD := Lib.hid hp
  clear hp
  have HK := Lib.hid hk
  obtain ⟨nb, hnb⟩ : ∃ nb, nb = o.next := ⟨_, rfl⟩
  obtain ⟨q0, hq0⟩ : ∃ q0, q0 = there 24 o.b 0 := ⟨_, rfl⟩
  have hkk : k = if nb && q0 then ((Bs.getD o.b.toNat RB.blank).nx : Int) else o.p := by rw [hnb, hq0]; exact hk
  have HKK := Lib.hid hkk
  have HQ0 := Lib.hid hq0
  rw [← hnb] at c6
  rw [← hq0] at h0
  clear hT hR hl hy ht kP hk kpg b0 O0 hnb hkk hq0 hj HK
  have main : ∀ nb' q', nb = nb' → q0 = q' → True := fun _ _ _ _ => trivial
  clear main
  cases nb with
  | false =>
    have hk : o.p = k := by have := HKK.out; simpa using this.symm
    clear h0 HKK
    go_enter Tryz.func9, Tryz.ntmps9
    go_wp2_with fail
    obtain ⟨W1, hW1⟩ : ∃ W1, W1 = w.alloc (.cells o.row.toArray 35) := ⟨_, rfl⟩
    rw [← hW1] at HB0 HO c1 c2 c5 c6 hsl0 ⊢
    clear hW1 hk
    have kg := KG.out W1 HB0.out
    go_wp2_with (first
      | ((with_reducible refine kg.mono ?_); rintro e w2 ⟨rfl, b2⟩; have N2 := PArr.new w2 pzeros_length)
      | ((with_reducible refine wpl_pstore (.tmp 11) (.tmp 36) rfl rfl N2 rfl HPL.out rfl ?_); intro w3 N3 g3 e3; have B3 := page_new b2 g3; have d1 : w3.cell? ⟨w.heap.size, 1, none⟩ = some (.int .i64 o.b) := (HO.out.after B3).cell 1; have k4 := KP.out _ (HB0.out.trans (B3.mono HB0.out.size)))
      | (with_reducible refine wpl_pload (.tmp 11) rfl rfl N3 rfl ?_))
    have hgp : Hid (¬ T w2.heap.size) := Lib.hid (fun q => by have := HT.out _ q; have := HB0.out.size; have := b2.size; omega)
    have hgo : Hid (¬ T w.heap.size) := Lib.hid (fun q => by have := HT.out _ q; omega)
    ((with_reducible refine k4.mono ?_); rintro e w5 ⟨r, rfl, hRr, R5, c5x⟩)
    have O5 := (HO.out.after B3).chg c5x hgo.out
    have N5 := N3.chg c5x hgp.out
    have B3w := HB0.out.trans (B3.mono HB0.out.size)
    have e1 : w5.cell? ⟨w.heap.size, 1, none⟩ = some (.int .i64 o.b) := O5.cell 1
    have C5 : Chg w w5 T := (Chg.of_below B3w).trans c5x
    have h6 := there_any R5 HL.out o.b k
    have hsl5 := R5.sl
    rw [HL.out] at hsl5
    obtain ⟨gp, hgpe⟩ : ∃ gp, gp = w2.heap.size := ⟨_, rfl⟩
    simp only [← hgpe]
    rw [← hgpe] at N5 hgp
    have hgpg : Hid (gp ≠ g ∧ w.heap.size ≤ gp) := Lib.hid (by rw [hgpe]; have := HR.out.rg.lt; have := HB0.out.size; have := b2.size; exact ⟨by omega, by omega⟩)
    clear kg k4 N2 N3 g3 e3 B3 b2 d1 c1 c2 c5 c6 hsl0 hgpe KP KG HB0 HO c5x B3w
    have hr := H1.out _ _ hRr
    subst hr
    rw [HNO.out] at h6
    go_wp2_with ((with_reducible refine h6.mono ?_); rintro e w' ⟨rfl, rfl⟩)
    go_ret2
    exact ⟨rfl, hRr, R5, C5⟩
  | true =>
    cases q0 with
    | false =>
      have hk : o.p = k := by have := HKK.out; simpa using this.symm
      clear HKK
      go_enter Tryz.func9, Tryz.ntmps9
      go_wp2_with ((with_reducible refine h0.mono ?_); rintro e w' ⟨rfl, rfl⟩)
      obtain ⟨W1, hW1⟩ : ∃ W1, W1 = w.alloc (.cells o.row.toArray 35) := ⟨_, rfl⟩
      rw [← hW1] at HB0 HO c1 c2 c5 c6 hsl0 ⊢
      clear hW1 hk h0
      have kg := KG.out W1 HB0.out
      go_wp2_with (first
        | ((with_reducible refine kg.mono ?_); rintro e w2 ⟨rfl, b2⟩; have N2 := PArr.new w2 pzeros_length)
        | ((with_reducible refine wpl_pstore (.tmp 11) (.tmp 36) rfl rfl N2 rfl HPL.out rfl ?_); intro w3 N3 g3 e3; have B3 := page_new b2 g3; have d1 : w3.cell? ⟨w.heap.size, 1, none⟩ = some (.int .i64 o.b) := (HO.out.after B3).cell 1; have k4 := KP.out _ (HB0.out.trans (B3.mono HB0.out.size)))
        | (with_reducible refine wpl_pload (.tmp 11) rfl rfl N3 rfl ?_))
      have hgp : Hid (¬ T w2.heap.size) := Lib.hid (fun q => by have := HT.out _ q; have := HB0.out.size; have := b2.size; omega)
      have hgo : Hid (¬ T w.heap.size) := Lib.hid (fun q => by have := HT.out _ q; omega)
      ((with_reducible refine k4.mono ?_); rintro e w5 ⟨r, rfl, hRr, R5, c5x⟩)
      have O5 := (HO.out.after B3).chg c5x hgo.out
      have N5 := N3.chg c5x hgp.out
      have B3w := HB0.out.trans (B3.mono HB0.out.size)
      have e1 : w5.cell? ⟨w.heap.size, 1, none⟩ = some (.int .i64 o.b) := O5.cell 1
      have C5 : Chg w w5 T := (Chg.of_below B3w).trans c5x
      have h6 := there_any R5 HL.out o.b k
      have hsl5 := R5.sl
      rw [HL.out] at hsl5
      obtain ⟨gp, hgpe⟩ : ∃ gp, gp = w2.heap.size := ⟨_, rfl⟩
      simp only [← hgpe]
      rw [← hgpe] at N5 hgp
      have hgpg : Hid (gp ≠ g ∧ w.heap.size ≤ gp) := Lib.hid (by rw [hgpe]; have := HR.out.rg.lt; have := HB0.out.size; have := b2.size; exact ⟨by omega, by omega⟩)
      clear kg k4 N2 N3 g3 e3 B3 b2 d1 c1 c2 c5 c6 hsl0 hgpe KP KG HB0 HO c5x B3w
      have hr := H1.out _ _ hRr
      subst hr
      rw [HNO.out] at h6
      go_wp2_with ((with_reducible refine h6.mono ?_); rintro e w' ⟨rfl, rfl⟩)
      go_ret2
      exact ⟨rfl, hRr, R5, C5⟩
    | true =>
      have hth := of_decide_eq_true HQ0.out.symm
      obtain ⟨bn, hbn⟩ : ∃ bn : Nat, o.b = bn := ⟨o.b.toNat, by omega⟩
      have hb18 : bn < 18 := by omega
      have hb18i : (bn : Int) < 18 := by omega
      have hnx : ((Bs[bn]'(by rw [HL.out]; exact hb18)).nx : Int) = k := by
        have := HKK.out
        rw [hbn, Int.toNat_natCast, List.getD_eq_getElem?_getD, List.getElem?_eq_getElem (by rw [HL.out]; exact hb18)] at this
        simpa using this.symm
      have hcx : (w.alloc (.cells o.row.toArray 35)).cell? ⟨g, bn * 2074 + 2072, none⟩ = some (.int .i64 k) := by
        rw [(HR.out.after HB0.out).rg.cell (by rw [HL.out]; exact hb18) (by omega), RB.row_nx (HR.out.rg.at_ _), hnx]
      have c1' := c1
      rw [hbn] at c1'
      have HBN := Lib.hid hbn
      clear HKK hth hnx
      rw [hbn] at h0
      go_enter Tryz.func9, Tryz.ntmps9
      clear c1
      go_wp2_with ((with_reducible refine h0.mono ?_); rintro e w' ⟨rfl, rfl⟩)
      have S0 : (w.alloc (.cells o.row.toArray 35)).drew.cell? ⟨m, 0, none⟩ = some (.slice (some ⟨g, 0, none⟩) 18 18) ∧ (w.alloc (.cells o.row.toArray 35)).drew.cell? ⟨w.heap.size, 1, none⟩ = some (.int .i64 (bn : Int)) ∧ (w.alloc (.cells o.row.toArray 35)).drew.cell? ⟨g, bn * 2074 + 2072, none⟩ = some (.int .i64 k) := ⟨hsl0, c1', hcx⟩
      refine wp_region_held_drew (S := fun w' => w'.cell? ⟨m, 0, none⟩ = some (.slice (some ⟨g, 0, none⟩) 18 18) ∧ w'.cell? ⟨w.heap.size, 1, none⟩ = some (.int .i64 (bn : Int)) ∧ w'.cell? ⟨g, bn * 2074 + 2072, none⟩ = some (.int .i64 k)) (by kernel_rfl) S0 (fun _ => ?_)
      refine wpAnyH_take (i := 0) (v := .pointer (some ⟨m, 0, none⟩)) rfl (by kernel_rfl) (by kernel_rfl) (by kernel_rfl) (fun _ _ _ h => h) (Or.inl ⟨by kernel_rfl, fun w _ => by go_simp⟩) S0 ?_
      refine wpAnyH_take (i := 1) (v := .pointer (some ⟨m, 0, none⟩)) rfl (by kernel_rfl) (by kernel_rfl) (by kernel_rfl) (fun _ _ _ h => h) (Or.inl ⟨by kernel_rfl, fun w _ => by go_simp⟩) S0 ?_
      refine wpAnyH_take (i := 2) (v := .pointer (some ⟨m, 0, none⟩)) rfl (by kernel_rfl) (by kernel_rfl) (by kernel_rfl) (fun _ _ _ h => h) (Or.inl ⟨by kernel_rfl, fun w _ => by go_simp⟩) S0 ?_
      refine wpAnyH_take (i := 3) (v := .slice (some ⟨g, 0, none⟩) 18 18) rfl (by kernel_rfl) (by kernel_rfl) (by kernel_rfl) (fun _ _ _ h => h) (yields_one (ty := 59) (fun w => by kernel_rfl) (.tmp 26) (by kernel_rfl) (by kernel_rfl) (by kernel_rfl) (fun _ h => h.1)) S0 ?_
      refine wpAnyH_take (i := 4) (v := .pointer (some ⟨w.heap.size, 1, none⟩)) rfl (by kernel_rfl) (by kernel_rfl) (by kernel_rfl) (fun _ _ _ h => h) (Or.inl ⟨by kernel_rfl, fun w _ => by go_simp⟩) S0 ?_
      refine wpAnyH_take (i := 5) (v := .int .i64 (bn : Int)) rfl (by kernel_rfl) (by kernel_rfl) (by kernel_rfl) (fun _ _ _ h => h) (yields_one (ty := 3) (fun w => by kernel_rfl) (.tmp 28) (by kernel_rfl) (by kernel_rfl) (by kernel_rfl) (fun _ h => h.2.1)) S0 ?_
      refine wpAnyH_take (i := 6) (v := .pointer (some ⟨g, bn * 2074, none⟩)) rfl (by kernel_rfl) (by kernel_rfl) (by kernel_rfl) (fun _ _ _ h => h) (Or.inl ⟨by kernel_rfl, fun w _ => by go_simp⟩) S0 ?_
      refine wpAnyH_take (i := 7) (v := .pointer (some ⟨g, bn * 2074 + 2072, none⟩)) rfl (by kernel_rfl) (by kernel_rfl) (by kernel_rfl) (fun _ _ _ h => h) (Or.inl ⟨by kernel_rfl, fun w _ => by go_simp⟩) S0 ?_
      refine wpAnyH_take (i := 8) (v := .int .i64 k) rfl (by kernel_rfl) (by kernel_rfl) (by kernel_rfl) (fun _ _ _ h => h) (yields_one (ty := 3) (fun w => by kernel_rfl) (.tmp 31) (by kernel_rfl) (by kernel_rfl) (by kernel_rfl) (fun _ h => h.2.2)) S0 ?_
      refine wpAnyH_take (i := 9) (v := .int .i64 k) rfl (by kernel_rfl) (by kernel_rfl) (by kernel_rfl) (fun _ _ _ h => h) (Or.inl ⟨by kernel_rfl, fun w _ => by go_simp⟩) S0 ?_
      refine wpAnyH_done (by kernel_rfl) ?_ _
      go_wp2_with fail
      obtain ⟨W1, hW1⟩ : ∃ W1, W1 = (w.alloc (.cells o.row.toArray 35)).drew := ⟨_, rfl⟩
      have HB1 : Hid (Below w.heap.size w W1) := by rw [hW1]; exact Lib.hid HB0.out.drew
      have HO1 : Hid (Blk W1 w.heap.size 35 o.row) := by rw [hW1]; exact HO
      have c1 : W1.cell? ⟨w.heap.size, 1, none⟩ = some (.int .i64 o.b) := HO1.out.cell 1
      have c2' : W1.cell? ⟨w.heap.size, 2, none⟩ = some (.int .i64 o.p) := HO1.out.cell 2
      have c5' : W1.cell? ⟨w.heap.size, 5, none⟩ = some (.int .u8 ((y.toNat : Nat) : Int)) := by rw [hW1]; exact c5
      have c6' : W1.cell? ⟨w.heap.size, 6, none⟩ = some (.bool true) := by rw [hW1]; exact c6
      have hsl1 : W1.cell? ⟨m, 0, none⟩ = some (.slice (some ⟨g, 0, none⟩) 18 18) := by rw [hW1]; exact hsl0
      rw [← hW1]
      clear hW1 HB0 HO c2 c5 c6 hsl0 S0 h0 hcx c1'
      have HB0 := HB1
      have HO := HO1
      have c2 := c2'
      have c5 := c5'
      have c6 := c6'
      have hsl0 := hsl1
      clear HB1 HO1 c2' c5' c6' hsl1 HBN hbn hb18 hb18i
      have kg := KG.out W1 HB0.out
      go_wp2_with (first
        | ((with_reducible refine kg.mono ?_); rintro e w2 ⟨rfl, b2⟩; have N2 := PArr.new w2 pzeros_length)
        | ((with_reducible refine wpl_pstore (.tmp 11) (.tmp 36) rfl rfl N2 rfl HPL.out rfl ?_); intro w3 N3 g3 e3; have B3 := page_new b2 g3; have d1 : w3.cell? ⟨w.heap.size, 1, none⟩ = some (.int .i64 o.b) := (HO.out.after B3).cell 1; have k4 := KP.out _ (HB0.out.trans (B3.mono HB0.out.size)))
        | (with_reducible refine wpl_pload (.tmp 11) rfl rfl N3 rfl ?_))
      have hgp : Hid (¬ T w2.heap.size) := Lib.hid (fun q => by have := HT.out _ q; have := HB0.out.size; have := b2.size; omega)
      have hgo : Hid (¬ T w.heap.size) := Lib.hid (fun q => by have := HT.out _ q; omega)
      ((with_reducible refine k4.mono ?_); rintro e w5 ⟨r, rfl, hRr, R5, c5x⟩)
      have O5 := (HO.out.after B3).chg c5x hgo.out
      have N5 := N3.chg c5x hgp.out
      have B3w := HB0.out.trans (B3.mono HB0.out.size)
      have e1 : w5.cell? ⟨w.heap.size, 1, none⟩ = some (.int .i64 o.b) := O5.cell 1
      have C5 : Chg w w5 T := (Chg.of_below B3w).trans c5x
      have h6 := there_any R5 HL.out o.b k
      have hsl5 := R5.sl
      rw [HL.out] at hsl5
      obtain ⟨gp, hgpe⟩ : ∃ gp, gp = w2.heap.size := ⟨_, rfl⟩
      simp only [← hgpe]
      rw [← hgpe] at N5 hgp
      have hgpg : Hid (gp ≠ g ∧ w.heap.size ≤ gp) := Lib.hid (by rw [hgpe]; have := HR.out.rg.lt; have := HB0.out.size; have := b2.size; exact ⟨by omega, by omega⟩)
      clear kg k4 N2 N3 g3 e3 B3 b2 d1 c1 c2 c5 c6 hsl0 hgpe KP KG HB0 HO c5x B3w
      have hr := H1.out _ _ hRr
      subst hr
      rw [HNO.out] at h6
      go_wp2_with ((with_reducible refine h6.mono ?_); rintro e w' ⟨rfl, rfl⟩)
      go_ret2
      exact ⟨rfl, hRr, R5, C5⟩
set_option maxRecDepth 100000 in
set_option maxHeartbeats 64000000 in
theorem dprog_order (hT : ∀ j, T j → j < w.heap.size) (hR : RD w m g Bs) (hl : Bs.length = 18) (y : UInt8) (hy : o.byte = ((y.toNat : Nat) : Int)) (j : Nat) (hj : j < 60) (ht : Tab w)
    (k : Int) (hk : k = kOf o Bs)
    (kP : ∀ W, Below w.heap.size w W → Calls Tryz.prog 22 #[.pointer (some ⟨d, 0, none⟩), .int .i64 o.b, .int .i64 k, .agg (cl (lpg y (UInt8.ofNat j)))] W fun er W' => ∃ r, er = .returned (.int .i64 r) ∧ R r W' ∧ RD W' m g Bs ∧ Chg W W' T)
    (hst : ∀ r W1 W2, R r W1 → Chg W1 W2 (fun j => j = g) → R r W2) (b kn : Nat) (B : RB) (hb : o.b = b) (hb18 : b < 18) (hkn : k = kn) (hk8 : kn < 8) (hB : Bs[b]? = some B) (htn : B.torn = false) (hnx : B.nx ≠ kn) (h1 : ∀ r W, R r W → r = 32) :
    Calls Tryz.prog 9 #[.pointer (some ⟨d, 0, none⟩), .pointer (some ⟨m, 0, none⟩), .agg o.row.toArray, .int .i64 (j : Int)] w fun e w' => e = .returned (.tuple #[.int .i64 32, .bool true]) ∧ R 32 w' ∧ RD w' m g Bs ∧ Chg w w' T := by
  have z := zeroPage
  have b0 : Below w.heap.size w (w.alloc (.cells o.row.toArray 35)) := (Below.refl _ _).alloc (Nat.le_refl _) _
  have O0 : Blk (w.alloc (.cells o.row.toArray 35)) w.heap.size 35 o.row := Blk.new w _ o.row
  have c1 : (w.alloc (.cells o.row.toArray 35)).cell? ⟨w.heap.size, 1, none⟩ = some (.int .i64 o.b) := O0.cell 1
  have c2 : (w.alloc (.cells o.row.toArray 35)).cell? ⟨w.heap.size, 2, none⟩ = some (.int .i64 o.p) := O0.cell 2
  have c6 : (w.alloc (.cells o.row.toArray 35)).cell? ⟨w.heap.size, 6, none⟩ = some (.bool o.next) := O0.cell 6
  have c5 : (w.alloc (.cells o.row.toArray 35)).cell? ⟨w.heap.size, 5, none⟩ = some (.int .u8 ((y.toNat : Nat) : Int)) := by rw [← hy]; exact O0.cell 5
  have h0 := there_any (hR.after b0) hl o.b 0
  have hsl0 := (hR.after b0).sl
  rw [hl] at hsl0
  have HT := Lib.hid hT
  have HR := Lib.hid hR
  have HL := Lib.hid hl
  have HTB := Lib.hid ht
  have KP := Lib.hid kP
  have HB0 := Lib.hid b0
  have HO := Lib.hid O0
  have HJ := Lib.hid hj
  have HPL := Lib.hid (lpg_length y (UInt8.ofNat j))
  have hj60 : (j : Int) < 60 := by omega
  obtain ⟨p, hp⟩ : ∃ p, p = lpg y (UInt8.ofNat j) := ⟨_, rfl⟩
  have kpg := fun (W : World) (hW : Below w.heap.size w W) => page_any y (j : Int) (UInt8.ofNat j) (wrap_byte (by omega)) W (ht.below hW ht.lt)
  rw [← hp] at KP HPL kpg
  have HBN := Lib.hid hb
  have HKN := Lib.hid hkn
  have HST := Lib.hid hst
  have H1 := Lib.hid h1
  have H18 := Lib.hid (And.intro hb18 hk8)
  have HB := Lib.hid hB
  have HTN := Lib.hid htn
  have HNX := Lib.hid hnx
  clear hb hb18 hk8 htn hnx h1 hB hst hkn
  have KG := Lib.hid kpg
  have HPD := Lib.hid hp
  clear hp
  have HK := Lib.hid hk
  obtain ⟨nb, hnb⟩ : ∃ nb, nb = o.next := ⟨_, rfl⟩
  obtain ⟨q0, hq0⟩ : ∃ q0, q0 = there 24 o.b 0 := ⟨_, rfl⟩
  have hkk : k = if nb && q0 then ((Bs.getD o.b.toNat RB.blank).nx : Int) else o.p := by rw [hnb, hq0]; exact hk
  have HKK := Lib.hid hkk
  have HQ0 := Lib.hid hq0
  rw [← hnb] at c6
  rw [← hq0] at h0
  clear hT hR hl hy ht kP hk kpg b0 O0 hnb hkk hq0 hj HK
  have main : ∀ nb' q', nb = nb' → q0 = q' → True := fun _ _ _ _ => trivial
  clear main
  cases nb with
  | false =>
    have hk : o.p = k := by have := HKK.out; simpa using this.symm
    clear h0 HKK
    go_enter Tryz.func9, Tryz.ntmps9
    go_wp2_with fail
    obtain ⟨W1, hW1⟩ : ∃ W1, W1 = w.alloc (.cells o.row.toArray 35) := ⟨_, rfl⟩
    rw [← hW1] at HB0 HO c1 c2 c5 c6 hsl0 ⊢
    clear hW1 hk
    have kg := KG.out W1 HB0.out
    go_wp2_with (first
      | ((with_reducible refine kg.mono ?_); rintro e w2 ⟨rfl, b2⟩; have N2 := PArr.new w2 pzeros_length)
      | ((with_reducible refine wpl_pstore (.tmp 11) (.tmp 36) rfl rfl N2 rfl HPL.out rfl ?_); intro w3 N3 g3 e3; have B3 := page_new b2 g3; have d1 : w3.cell? ⟨w.heap.size, 1, none⟩ = some (.int .i64 o.b) := (HO.out.after B3).cell 1; have k4 := KP.out _ (HB0.out.trans (B3.mono HB0.out.size)))
      | (with_reducible refine wpl_pload (.tmp 11) rfl rfl N3 rfl ?_))
    have hgp : Hid (¬ T w2.heap.size) := Lib.hid (fun q => by have := HT.out _ q; have := HB0.out.size; have := b2.size; omega)
    have hgo : Hid (¬ T w.heap.size) := Lib.hid (fun q => by have := HT.out _ q; omega)
    ((with_reducible refine k4.mono ?_); rintro e w5 ⟨r, rfl, hRr, R5, c5x⟩)
    have O5 := (HO.out.after B3).chg c5x hgo.out
    have N5 := N3.chg c5x hgp.out
    have B3w := HB0.out.trans (B3.mono HB0.out.size)
    have e1 : w5.cell? ⟨w.heap.size, 1, none⟩ = some (.int .i64 o.b) := O5.cell 1
    have C5 : Chg w w5 T := (Chg.of_below B3w).trans c5x
    have h6 := there_any R5 HL.out o.b k
    have hsl5 := R5.sl
    rw [HL.out] at hsl5
    obtain ⟨gp, hgpe⟩ : ∃ gp, gp = w2.heap.size := ⟨_, rfl⟩
    simp only [← hgpe]
    rw [← hgpe] at N5 hgp
    have hgpg : Hid (gp ≠ g ∧ w.heap.size ≤ gp) := Lib.hid (by rw [hgpe]; have := HR.out.rg.lt; have := HB0.out.size; have := b2.size; exact ⟨by omega, by omega⟩)
    clear kg k4 N2 N3 g3 e3 B3 b2 d1 c1 c2 c5 c6 hsl0 hgpe KP KG HB0 HO c5x B3w
    have hr := H1.out _ _ hRr
    subst hr
    have hne : ((kn : Int) != (B.nx : Int)) = true := by have := HNX.out; simp; omega
    have hbo := HBN.out
    have hkn := HKN.out
    subst hkn
    rw [hbo] at e1 h6
    rw [show there 24 (b : Int) (kn : Int) = true from decide_eq_true (by have := H18.out; omega)] at h6
    have hb18i : (b : Int) < 18 := by have := H18.out; omega
    have hk8i : (kn : Int) < 8 := by have := H18.out; omega
    have hBs5 : b < Bs.length := by rw [HL.out]; exact H18.out.1
    have hBB : Bs[b]'hBs5 = B := (List.getElem?_eq_some_iff.1 HB.out).2
    have hBok : B.ok := by rw [← hBB]; exact R5.rg.at_ hBs5
    have RDr : RG w5.drew g Bs := ⟨R5.rg.blk, R5.rg.oks⟩
    have htc : w5.drew.cell? ⟨g, b * 2074 + 2073, none⟩ = some (.bool false) := by
      rw [RDr.cell hBs5 (by omega), hBB, RB.row_torn hBok, HTN.out]
    have hnc : w5.drew.cell? ⟨g, b * 2074 + 2072, none⟩ = some (.int .i64 (B.nx : Int)) := by
      rw [RDr.cell hBs5 (by omega), hBB, RB.row_nx hBok]
    have S0 : w5.drew.cell? ⟨m, 0, none⟩ = some (.slice (some ⟨g, 0, none⟩) 18 18) ∧ w5.drew.cell? ⟨w.heap.size, 1, none⟩ = some (.int .i64 (b : Int)) := ⟨hsl5, e1⟩
    go_wp2_with ((with_reducible refine h6.mono ?_); rintro e w' ⟨rfl, rfl⟩)
    refine wp_region_held_drew (S := fun w' => w'.cell? ⟨m, 0, none⟩ = some (.slice (some ⟨g, 0, none⟩) 18 18) ∧ w'.cell? ⟨w.heap.size, 1, none⟩ = some (.int .i64 (b : Int))) (by kernel_rfl) S0 (fun _ => ?_)
    refine wpAnyH_take (i := 0) (v := .pointer (some ⟨m, 0, none⟩)) rfl (by kernel_rfl) (by kernel_rfl) (by kernel_rfl) (fun _ _ _ h => h) (Or.inl ⟨by kernel_rfl, fun w _ => by go_simp⟩) S0 ?_
    refine wpAnyH_take (i := 1) (v := .pointer (some ⟨m, 0, none⟩)) rfl (by kernel_rfl) (by kernel_rfl) (by kernel_rfl) (fun _ _ _ h => h) (Or.inl ⟨by kernel_rfl, fun w _ => by go_simp⟩) S0 ?_
    refine wpAnyH_take (i := 2) (v := .pointer (some ⟨m, 0, none⟩)) rfl (by kernel_rfl) (by kernel_rfl) (by kernel_rfl) (fun _ _ _ h => h) (Or.inl ⟨by kernel_rfl, fun w _ => by go_simp⟩) S0 ?_
    refine wpAnyH_take (i := 3) (v := .slice (some ⟨g, 0, none⟩) 18 18) rfl (by kernel_rfl) (by kernel_rfl) (by kernel_rfl) (fun _ _ _ h => h) (yields_one (ty := 59) (fun w => by kernel_rfl) (.tmp 64) (by kernel_rfl) (by kernel_rfl) (by kernel_rfl) (fun _ h => h.1)) S0 ?_
    refine wpAnyH_take (i := 4) (v := .pointer (some ⟨w.heap.size, 1, none⟩)) rfl (by kernel_rfl) (by kernel_rfl) (by kernel_rfl) (fun _ _ _ h => h) (Or.inl ⟨by kernel_rfl, fun w _ => by go_simp⟩) S0 ?_
    refine wpAnyH_take (i := 5) (v := .int .i64 (b : Int)) rfl (by kernel_rfl) (by kernel_rfl) (by kernel_rfl) (fun _ _ _ h => h) (yields_one (ty := 3) (fun w => by kernel_rfl) (.tmp 66) (by kernel_rfl) (by kernel_rfl) (by kernel_rfl) (fun _ h => h.2)) S0 ?_
    refine wpAnyH_take (i := 6) (v := .pointer (some ⟨g, b * 2074, none⟩)) rfl (by kernel_rfl) (by kernel_rfl) (by kernel_rfl) (fun _ _ _ h => h) (Or.inl ⟨by kernel_rfl, fun w _ => by go_simp⟩) S0 ?_
    refine wpAnyH_take (i := 7) (v := .pointer (some ⟨g, b * 2074, none⟩)) rfl (by kernel_rfl) (by kernel_rfl) (by kernel_rfl) (fun _ _ _ h => h) (Or.inl ⟨by kernel_rfl, fun w _ => by go_simp⟩) S0 ?_
    refine wpAnyH_done (by kernel_rfl) ?_ _
    clear S0
    go_wp2_with fail
    go_ret2
    exact ⟨rfl, HST.out _ _ _ hRr ((Chg.of_below ((Below.refl _ _).drew))), (show RD w5.drew m g Bs from ⟨R5.hd, ⟨R5.rg.blk, R5.rg.oks⟩, R5.ne⟩), C5.trans (Chg.of_below ((Below.refl _ _).drew))⟩
  | true =>
    cases q0 with
    | false =>
      have hk : o.p = k := by have := HKK.out; simpa using this.symm
      clear HKK
      go_enter Tryz.func9, Tryz.ntmps9
      go_wp2_with ((with_reducible refine h0.mono ?_); rintro e w' ⟨rfl, rfl⟩)
      obtain ⟨W1, hW1⟩ : ∃ W1, W1 = w.alloc (.cells o.row.toArray 35) := ⟨_, rfl⟩
      rw [← hW1] at HB0 HO c1 c2 c5 c6 hsl0 ⊢
      clear hW1 hk h0
      have kg := KG.out W1 HB0.out
      go_wp2_with (first
        | ((with_reducible refine kg.mono ?_); rintro e w2 ⟨rfl, b2⟩; have N2 := PArr.new w2 pzeros_length)
        | ((with_reducible refine wpl_pstore (.tmp 11) (.tmp 36) rfl rfl N2 rfl HPL.out rfl ?_); intro w3 N3 g3 e3; have B3 := page_new b2 g3; have d1 : w3.cell? ⟨w.heap.size, 1, none⟩ = some (.int .i64 o.b) := (HO.out.after B3).cell 1; have k4 := KP.out _ (HB0.out.trans (B3.mono HB0.out.size)))
        | (with_reducible refine wpl_pload (.tmp 11) rfl rfl N3 rfl ?_))
      have hgp : Hid (¬ T w2.heap.size) := Lib.hid (fun q => by have := HT.out _ q; have := HB0.out.size; have := b2.size; omega)
      have hgo : Hid (¬ T w.heap.size) := Lib.hid (fun q => by have := HT.out _ q; omega)
      ((with_reducible refine k4.mono ?_); rintro e w5 ⟨r, rfl, hRr, R5, c5x⟩)
      have O5 := (HO.out.after B3).chg c5x hgo.out
      have N5 := N3.chg c5x hgp.out
      have B3w := HB0.out.trans (B3.mono HB0.out.size)
      have e1 : w5.cell? ⟨w.heap.size, 1, none⟩ = some (.int .i64 o.b) := O5.cell 1
      have C5 : Chg w w5 T := (Chg.of_below B3w).trans c5x
      have h6 := there_any R5 HL.out o.b k
      have hsl5 := R5.sl
      rw [HL.out] at hsl5
      obtain ⟨gp, hgpe⟩ : ∃ gp, gp = w2.heap.size := ⟨_, rfl⟩
      simp only [← hgpe]
      rw [← hgpe] at N5 hgp
      have hgpg : Hid (gp ≠ g ∧ w.heap.size ≤ gp) := Lib.hid (by rw [hgpe]; have := HR.out.rg.lt; have := HB0.out.size; have := b2.size; exact ⟨by omega, by omega⟩)
      clear kg k4 N2 N3 g3 e3 B3 b2 d1 c1 c2 c5 c6 hsl0 hgpe KP KG HB0 HO c5x B3w
      have hr := H1.out _ _ hRr
      subst hr
      have hne : ((kn : Int) != (B.nx : Int)) = true := by have := HNX.out; simp; omega
      have hbo := HBN.out
      have hkn := HKN.out
      subst hkn
      rw [hbo] at e1 h6
      rw [show there 24 (b : Int) (kn : Int) = true from decide_eq_true (by have := H18.out; omega)] at h6
      have hb18i : (b : Int) < 18 := by have := H18.out; omega
      have hk8i : (kn : Int) < 8 := by have := H18.out; omega
      have hBs5 : b < Bs.length := by rw [HL.out]; exact H18.out.1
      have hBB : Bs[b]'hBs5 = B := (List.getElem?_eq_some_iff.1 HB.out).2
      have hBok : B.ok := by rw [← hBB]; exact R5.rg.at_ hBs5
      have RDr : RG w5.drew g Bs := ⟨R5.rg.blk, R5.rg.oks⟩
      have htc : w5.drew.cell? ⟨g, b * 2074 + 2073, none⟩ = some (.bool false) := by
        rw [RDr.cell hBs5 (by omega), hBB, RB.row_torn hBok, HTN.out]
      have hnc : w5.drew.cell? ⟨g, b * 2074 + 2072, none⟩ = some (.int .i64 (B.nx : Int)) := by
        rw [RDr.cell hBs5 (by omega), hBB, RB.row_nx hBok]
      have S0 : w5.drew.cell? ⟨m, 0, none⟩ = some (.slice (some ⟨g, 0, none⟩) 18 18) ∧ w5.drew.cell? ⟨w.heap.size, 1, none⟩ = some (.int .i64 (b : Int)) := ⟨hsl5, e1⟩
      go_wp2_with ((with_reducible refine h6.mono ?_); rintro e w' ⟨rfl, rfl⟩)
      refine wp_region_held_drew (S := fun w' => w'.cell? ⟨m, 0, none⟩ = some (.slice (some ⟨g, 0, none⟩) 18 18) ∧ w'.cell? ⟨w.heap.size, 1, none⟩ = some (.int .i64 (b : Int))) (by kernel_rfl) S0 (fun _ => ?_)
      refine wpAnyH_take (i := 0) (v := .pointer (some ⟨m, 0, none⟩)) rfl (by kernel_rfl) (by kernel_rfl) (by kernel_rfl) (fun _ _ _ h => h) (Or.inl ⟨by kernel_rfl, fun w _ => by go_simp⟩) S0 ?_
      refine wpAnyH_take (i := 1) (v := .pointer (some ⟨m, 0, none⟩)) rfl (by kernel_rfl) (by kernel_rfl) (by kernel_rfl) (fun _ _ _ h => h) (Or.inl ⟨by kernel_rfl, fun w _ => by go_simp⟩) S0 ?_
      refine wpAnyH_take (i := 2) (v := .pointer (some ⟨m, 0, none⟩)) rfl (by kernel_rfl) (by kernel_rfl) (by kernel_rfl) (fun _ _ _ h => h) (Or.inl ⟨by kernel_rfl, fun w _ => by go_simp⟩) S0 ?_
      refine wpAnyH_take (i := 3) (v := .slice (some ⟨g, 0, none⟩) 18 18) rfl (by kernel_rfl) (by kernel_rfl) (by kernel_rfl) (fun _ _ _ h => h) (yields_one (ty := 59) (fun w => by kernel_rfl) (.tmp 64) (by kernel_rfl) (by kernel_rfl) (by kernel_rfl) (fun _ h => h.1)) S0 ?_
      refine wpAnyH_take (i := 4) (v := .pointer (some ⟨w.heap.size, 1, none⟩)) rfl (by kernel_rfl) (by kernel_rfl) (by kernel_rfl) (fun _ _ _ h => h) (Or.inl ⟨by kernel_rfl, fun w _ => by go_simp⟩) S0 ?_
      refine wpAnyH_take (i := 5) (v := .int .i64 (b : Int)) rfl (by kernel_rfl) (by kernel_rfl) (by kernel_rfl) (fun _ _ _ h => h) (yields_one (ty := 3) (fun w => by kernel_rfl) (.tmp 66) (by kernel_rfl) (by kernel_rfl) (by kernel_rfl) (fun _ h => h.2)) S0 ?_
      refine wpAnyH_take (i := 6) (v := .pointer (some ⟨g, b * 2074, none⟩)) rfl (by kernel_rfl) (by kernel_rfl) (by kernel_rfl) (fun _ _ _ h => h) (Or.inl ⟨by kernel_rfl, fun w _ => by go_simp⟩) S0 ?_
      refine wpAnyH_take (i := 7) (v := .pointer (some ⟨g, b * 2074, none⟩)) rfl (by kernel_rfl) (by kernel_rfl) (by kernel_rfl) (fun _ _ _ h => h) (Or.inl ⟨by kernel_rfl, fun w _ => by go_simp⟩) S0 ?_
      refine wpAnyH_done (by kernel_rfl) ?_ _
      clear S0
      go_wp2_with fail
      go_ret2
      exact ⟨rfl, HST.out _ _ _ hRr ((Chg.of_below ((Below.refl _ _).drew))), (show RD w5.drew m g Bs from ⟨R5.hd, ⟨R5.rg.blk, R5.rg.oks⟩, R5.ne⟩), C5.trans (Chg.of_below ((Below.refl _ _).drew))⟩
    | true =>
      have hth := of_decide_eq_true HQ0.out.symm
      obtain ⟨bn, hbn⟩ : ∃ bn : Nat, o.b = bn := ⟨o.b.toNat, by omega⟩
      have hb18 : bn < 18 := by omega
      have hb18i : (bn : Int) < 18 := by omega
      have hnx : ((Bs[bn]'(by rw [HL.out]; exact hb18)).nx : Int) = k := by
        have := HKK.out
        rw [hbn, Int.toNat_natCast, List.getD_eq_getElem?_getD, List.getElem?_eq_getElem (by rw [HL.out]; exact hb18)] at this
        simpa using this.symm
      have hcx : (w.alloc (.cells o.row.toArray 35)).cell? ⟨g, bn * 2074 + 2072, none⟩ = some (.int .i64 k) := by
        rw [(HR.out.after HB0.out).rg.cell (by rw [HL.out]; exact hb18) (by omega), RB.row_nx (HR.out.rg.at_ _), hnx]
      have c1' := c1
      rw [hbn] at c1'
      have HBN := Lib.hid hbn
      clear HKK hth hnx
      rw [hbn] at h0
      go_enter Tryz.func9, Tryz.ntmps9
      clear c1
      go_wp2_with ((with_reducible refine h0.mono ?_); rintro e w' ⟨rfl, rfl⟩)
      have S0 : (w.alloc (.cells o.row.toArray 35)).drew.cell? ⟨m, 0, none⟩ = some (.slice (some ⟨g, 0, none⟩) 18 18) ∧ (w.alloc (.cells o.row.toArray 35)).drew.cell? ⟨w.heap.size, 1, none⟩ = some (.int .i64 (bn : Int)) ∧ (w.alloc (.cells o.row.toArray 35)).drew.cell? ⟨g, bn * 2074 + 2072, none⟩ = some (.int .i64 k) := ⟨hsl0, c1', hcx⟩
      refine wp_region_held_drew (S := fun w' => w'.cell? ⟨m, 0, none⟩ = some (.slice (some ⟨g, 0, none⟩) 18 18) ∧ w'.cell? ⟨w.heap.size, 1, none⟩ = some (.int .i64 (bn : Int)) ∧ w'.cell? ⟨g, bn * 2074 + 2072, none⟩ = some (.int .i64 k)) (by kernel_rfl) S0 (fun _ => ?_)
      refine wpAnyH_take (i := 0) (v := .pointer (some ⟨m, 0, none⟩)) rfl (by kernel_rfl) (by kernel_rfl) (by kernel_rfl) (fun _ _ _ h => h) (Or.inl ⟨by kernel_rfl, fun w _ => by go_simp⟩) S0 ?_
      refine wpAnyH_take (i := 1) (v := .pointer (some ⟨m, 0, none⟩)) rfl (by kernel_rfl) (by kernel_rfl) (by kernel_rfl) (fun _ _ _ h => h) (Or.inl ⟨by kernel_rfl, fun w _ => by go_simp⟩) S0 ?_
      refine wpAnyH_take (i := 2) (v := .pointer (some ⟨m, 0, none⟩)) rfl (by kernel_rfl) (by kernel_rfl) (by kernel_rfl) (fun _ _ _ h => h) (Or.inl ⟨by kernel_rfl, fun w _ => by go_simp⟩) S0 ?_
      refine wpAnyH_take (i := 3) (v := .slice (some ⟨g, 0, none⟩) 18 18) rfl (by kernel_rfl) (by kernel_rfl) (by kernel_rfl) (fun _ _ _ h => h) (yields_one (ty := 59) (fun w => by kernel_rfl) (.tmp 26) (by kernel_rfl) (by kernel_rfl) (by kernel_rfl) (fun _ h => h.1)) S0 ?_
      refine wpAnyH_take (i := 4) (v := .pointer (some ⟨w.heap.size, 1, none⟩)) rfl (by kernel_rfl) (by kernel_rfl) (by kernel_rfl) (fun _ _ _ h => h) (Or.inl ⟨by kernel_rfl, fun w _ => by go_simp⟩) S0 ?_
      refine wpAnyH_take (i := 5) (v := .int .i64 (bn : Int)) rfl (by kernel_rfl) (by kernel_rfl) (by kernel_rfl) (fun _ _ _ h => h) (yields_one (ty := 3) (fun w => by kernel_rfl) (.tmp 28) (by kernel_rfl) (by kernel_rfl) (by kernel_rfl) (fun _ h => h.2.1)) S0 ?_
      refine wpAnyH_take (i := 6) (v := .pointer (some ⟨g, bn * 2074, none⟩)) rfl (by kernel_rfl) (by kernel_rfl) (by kernel_rfl) (fun _ _ _ h => h) (Or.inl ⟨by kernel_rfl, fun w _ => by go_simp⟩) S0 ?_
      refine wpAnyH_take (i := 7) (v := .pointer (some ⟨g, bn * 2074 + 2072, none⟩)) rfl (by kernel_rfl) (by kernel_rfl) (by kernel_rfl) (fun _ _ _ h => h) (Or.inl ⟨by kernel_rfl, fun w _ => by go_simp⟩) S0 ?_
      refine wpAnyH_take (i := 8) (v := .int .i64 k) rfl (by kernel_rfl) (by kernel_rfl) (by kernel_rfl) (fun _ _ _ h => h) (yields_one (ty := 3) (fun w => by kernel_rfl) (.tmp 31) (by kernel_rfl) (by kernel_rfl) (by kernel_rfl) (fun _ h => h.2.2)) S0 ?_
      refine wpAnyH_take (i := 9) (v := .int .i64 k) rfl (by kernel_rfl) (by kernel_rfl) (by kernel_rfl) (fun _ _ _ h => h) (Or.inl ⟨by kernel_rfl, fun w _ => by go_simp⟩) S0 ?_
      refine wpAnyH_done (by kernel_rfl) ?_ _
      go_wp2_with fail
      obtain ⟨W1, hW1⟩ : ∃ W1, W1 = (w.alloc (.cells o.row.toArray 35)).drew := ⟨_, rfl⟩
      have HB1 : Hid (Below w.heap.size w W1) := by rw [hW1]; exact Lib.hid HB0.out.drew
      have HO1 : Hid (Blk W1 w.heap.size 35 o.row) := by rw [hW1]; exact HO
      have c1 : W1.cell? ⟨w.heap.size, 1, none⟩ = some (.int .i64 o.b) := HO1.out.cell 1
      have c2' : W1.cell? ⟨w.heap.size, 2, none⟩ = some (.int .i64 o.p) := HO1.out.cell 2
      have c5' : W1.cell? ⟨w.heap.size, 5, none⟩ = some (.int .u8 ((y.toNat : Nat) : Int)) := by rw [hW1]; exact c5
      have c6' : W1.cell? ⟨w.heap.size, 6, none⟩ = some (.bool true) := by rw [hW1]; exact c6
      have hsl1 : W1.cell? ⟨m, 0, none⟩ = some (.slice (some ⟨g, 0, none⟩) 18 18) := by rw [hW1]; exact hsl0
      rw [← hW1]
      clear hW1 HB0 HO c2 c5 c6 hsl0 S0 h0 hcx c1'
      have HB0 := HB1
      have HO := HO1
      have c2 := c2'
      have c5 := c5'
      have c6 := c6'
      have hsl0 := hsl1
      clear HB1 HO1 c2' c5' c6' hsl1 HBN hbn hb18 hb18i
      have kg := KG.out W1 HB0.out
      go_wp2_with (first
        | ((with_reducible refine kg.mono ?_); rintro e w2 ⟨rfl, b2⟩; have N2 := PArr.new w2 pzeros_length)
        | ((with_reducible refine wpl_pstore (.tmp 11) (.tmp 36) rfl rfl N2 rfl HPL.out rfl ?_); intro w3 N3 g3 e3; have B3 := page_new b2 g3; have d1 : w3.cell? ⟨w.heap.size, 1, none⟩ = some (.int .i64 o.b) := (HO.out.after B3).cell 1; have k4 := KP.out _ (HB0.out.trans (B3.mono HB0.out.size)))
        | (with_reducible refine wpl_pload (.tmp 11) rfl rfl N3 rfl ?_))
      have hgp : Hid (¬ T w2.heap.size) := Lib.hid (fun q => by have := HT.out _ q; have := HB0.out.size; have := b2.size; omega)
      have hgo : Hid (¬ T w.heap.size) := Lib.hid (fun q => by have := HT.out _ q; omega)
      ((with_reducible refine k4.mono ?_); rintro e w5 ⟨r, rfl, hRr, R5, c5x⟩)
      have O5 := (HO.out.after B3).chg c5x hgo.out
      have N5 := N3.chg c5x hgp.out
      have B3w := HB0.out.trans (B3.mono HB0.out.size)
      have e1 : w5.cell? ⟨w.heap.size, 1, none⟩ = some (.int .i64 o.b) := O5.cell 1
      have C5 : Chg w w5 T := (Chg.of_below B3w).trans c5x
      have h6 := there_any R5 HL.out o.b k
      have hsl5 := R5.sl
      rw [HL.out] at hsl5
      obtain ⟨gp, hgpe⟩ : ∃ gp, gp = w2.heap.size := ⟨_, rfl⟩
      simp only [← hgpe]
      rw [← hgpe] at N5 hgp
      have hgpg : Hid (gp ≠ g ∧ w.heap.size ≤ gp) := Lib.hid (by rw [hgpe]; have := HR.out.rg.lt; have := HB0.out.size; have := b2.size; exact ⟨by omega, by omega⟩)
      clear kg k4 N2 N3 g3 e3 B3 b2 d1 c1 c2 c5 c6 hsl0 hgpe KP KG HB0 HO c5x B3w
      have hr := H1.out _ _ hRr
      subst hr
      have hne : ((kn : Int) != (B.nx : Int)) = true := by have := HNX.out; simp; omega
      have hbo := HBN.out
      have hkn := HKN.out
      subst hkn
      rw [hbo] at e1 h6
      rw [show there 24 (b : Int) (kn : Int) = true from decide_eq_true (by have := H18.out; omega)] at h6
      have hb18i : (b : Int) < 18 := by have := H18.out; omega
      have hk8i : (kn : Int) < 8 := by have := H18.out; omega
      have hBs5 : b < Bs.length := by rw [HL.out]; exact H18.out.1
      have hBB : Bs[b]'hBs5 = B := (List.getElem?_eq_some_iff.1 HB.out).2
      have hBok : B.ok := by rw [← hBB]; exact R5.rg.at_ hBs5
      have RDr : RG w5.drew g Bs := ⟨R5.rg.blk, R5.rg.oks⟩
      have htc : w5.drew.cell? ⟨g, b * 2074 + 2073, none⟩ = some (.bool false) := by
        rw [RDr.cell hBs5 (by omega), hBB, RB.row_torn hBok, HTN.out]
      have hnc : w5.drew.cell? ⟨g, b * 2074 + 2072, none⟩ = some (.int .i64 (B.nx : Int)) := by
        rw [RDr.cell hBs5 (by omega), hBB, RB.row_nx hBok]
      have S0 : w5.drew.cell? ⟨m, 0, none⟩ = some (.slice (some ⟨g, 0, none⟩) 18 18) ∧ w5.drew.cell? ⟨w.heap.size, 1, none⟩ = some (.int .i64 (b : Int)) := ⟨hsl5, e1⟩
      go_wp2_with ((with_reducible refine h6.mono ?_); rintro e w' ⟨rfl, rfl⟩)
      refine wp_region_held_drew (S := fun w' => w'.cell? ⟨m, 0, none⟩ = some (.slice (some ⟨g, 0, none⟩) 18 18) ∧ w'.cell? ⟨w.heap.size, 1, none⟩ = some (.int .i64 (b : Int))) (by kernel_rfl) S0 (fun _ => ?_)
      refine wpAnyH_take (i := 0) (v := .pointer (some ⟨m, 0, none⟩)) rfl (by kernel_rfl) (by kernel_rfl) (by kernel_rfl) (fun _ _ _ h => h) (Or.inl ⟨by kernel_rfl, fun w _ => by go_simp⟩) S0 ?_
      refine wpAnyH_take (i := 1) (v := .pointer (some ⟨m, 0, none⟩)) rfl (by kernel_rfl) (by kernel_rfl) (by kernel_rfl) (fun _ _ _ h => h) (Or.inl ⟨by kernel_rfl, fun w _ => by go_simp⟩) S0 ?_
      refine wpAnyH_take (i := 2) (v := .pointer (some ⟨m, 0, none⟩)) rfl (by kernel_rfl) (by kernel_rfl) (by kernel_rfl) (fun _ _ _ h => h) (Or.inl ⟨by kernel_rfl, fun w _ => by go_simp⟩) S0 ?_
      refine wpAnyH_take (i := 3) (v := .slice (some ⟨g, 0, none⟩) 18 18) rfl (by kernel_rfl) (by kernel_rfl) (by kernel_rfl) (fun _ _ _ h => h) (yields_one (ty := 59) (fun w => by kernel_rfl) (.tmp 64) (by kernel_rfl) (by kernel_rfl) (by kernel_rfl) (fun _ h => h.1)) S0 ?_
      refine wpAnyH_take (i := 4) (v := .pointer (some ⟨w.heap.size, 1, none⟩)) rfl (by kernel_rfl) (by kernel_rfl) (by kernel_rfl) (fun _ _ _ h => h) (Or.inl ⟨by kernel_rfl, fun w _ => by go_simp⟩) S0 ?_
      refine wpAnyH_take (i := 5) (v := .int .i64 (b : Int)) rfl (by kernel_rfl) (by kernel_rfl) (by kernel_rfl) (fun _ _ _ h => h) (yields_one (ty := 3) (fun w => by kernel_rfl) (.tmp 66) (by kernel_rfl) (by kernel_rfl) (by kernel_rfl) (fun _ h => h.2)) S0 ?_
      refine wpAnyH_take (i := 6) (v := .pointer (some ⟨g, b * 2074, none⟩)) rfl (by kernel_rfl) (by kernel_rfl) (by kernel_rfl) (fun _ _ _ h => h) (Or.inl ⟨by kernel_rfl, fun w _ => by go_simp⟩) S0 ?_
      refine wpAnyH_take (i := 7) (v := .pointer (some ⟨g, b * 2074, none⟩)) rfl (by kernel_rfl) (by kernel_rfl) (by kernel_rfl) (fun _ _ _ h => h) (Or.inl ⟨by kernel_rfl, fun w _ => by go_simp⟩) S0 ?_
      refine wpAnyH_done (by kernel_rfl) ?_ _
      clear S0
      go_wp2_with fail
      go_ret2
      exact ⟨rfl, HST.out _ _ _ hRr ((Chg.of_below ((Below.refl _ _).drew))), (show RD w5.drew m g Bs from ⟨R5.hd, ⟨R5.rg.blk, R5.rg.oks⟩, R5.ne⟩), C5.trans (Chg.of_below ((Below.refl _ _).drew))⟩
end
end Go.Proofs.YtaafelhjcmgkdaaGreatDoor

/- The laws' own Program at both disks, where the page is the next one. Condition: the disk's answers are those of its contract. -/
namespace Go.Proofs.YtaafelhjcmgkdaaGreatDoor
open Go.RowKit
section
variable {w : World} {m g d : Nat} {Bs : List RB} {o : Op7} {T : Nat → Prop} {R : Int → World → Prop}
set_option maxRecDepth 100000 in
set_option maxHeartbeats 64000000 in
theorem dprog_next (hT : ∀ j, T j → j < w.heap.size) (hR : RD w m g Bs) (hl : Bs.length = 18) (y : UInt8) (hy : o.byte = ((y.toNat : Nat) : Int)) (j : Nat) (hj : j < 60) (ht : Tab w)
    (k : Int) (hk : k = kOf o Bs)
    (kP : ∀ W, Below w.heap.size w W → Calls Tryz.prog 22 #[.pointer (some ⟨d, 0, none⟩), .int .i64 o.b, .int .i64 k, .agg (cl (lpg y (UInt8.ofNat j)))] W fun er W' => ∃ r, er = .returned (.int .i64 r) ∧ R r W' ∧ RD W' m g Bs ∧ Chg W W' T)
    (hst : ∀ r W1 W2, R r W1 → Chg W1 W2 (fun j => j = g) → R r W2) (b kn : Nat) (B : RB) (hb : o.b = b) (hb18 : b < 18) (hkn : k = kn) (hk8 : kn < 8) (hB : Bs[b]? = some B) (htn : B.torn = false) (hnx : B.nx = kn) (h1 : ∀ r W, R r W → r = 0 ∨ r = 30) :
    Calls Tryz.prog 9 #[.pointer (some ⟨d, 0, none⟩), .pointer (some ⟨m, 0, none⟩), .agg o.row.toArray, .int .i64 (j : Int)] w fun e w' => ∃ r, e = .returned (.tuple #[.int .i64 r, .bool true]) ∧ R r w' ∧ RD w' m g (Bs.set b (stepB B kn (lpg y (UInt8.ofNat j)) (decide (r = 0)))) ∧ Chg w w' (fun i => T i ∨ i = g) := by
  have z := zeroPage
  have b0 : Below w.heap.size w (w.alloc (.cells o.row.toArray 35)) := (Below.refl _ _).alloc (Nat.le_refl _) _
  have O0 : Blk (w.alloc (.cells o.row.toArray 35)) w.heap.size 35 o.row := Blk.new w _ o.row
  have c1 : (w.alloc (.cells o.row.toArray 35)).cell? ⟨w.heap.size, 1, none⟩ = some (.int .i64 o.b) := O0.cell 1
  have c2 : (w.alloc (.cells o.row.toArray 35)).cell? ⟨w.heap.size, 2, none⟩ = some (.int .i64 o.p) := O0.cell 2
  have c6 : (w.alloc (.cells o.row.toArray 35)).cell? ⟨w.heap.size, 6, none⟩ = some (.bool o.next) := O0.cell 6
  have c5 : (w.alloc (.cells o.row.toArray 35)).cell? ⟨w.heap.size, 5, none⟩ = some (.int .u8 ((y.toNat : Nat) : Int)) := by rw [← hy]; exact O0.cell 5
  have h0 := there_any (hR.after b0) hl o.b 0
  have hsl0 := (hR.after b0).sl
  rw [hl] at hsl0
  have HT := Lib.hid hT
  have HR := Lib.hid hR
  have HL := Lib.hid hl
  have HTB := Lib.hid ht
  have KP := Lib.hid kP
  have HB0 := Lib.hid b0
  have HO := Lib.hid O0
  have HJ := Lib.hid hj
  have HPL := Lib.hid (lpg_length y (UInt8.ofNat j))
  have hj60 : (j : Int) < 60 := by omega
  obtain ⟨p, hp⟩ : ∃ p, p = lpg y (UInt8.ofNat j) := ⟨_, rfl⟩
  have kpg := fun (W : World) (hW : Below w.heap.size w W) => page_any y (j : Int) (UInt8.ofNat j) (wrap_byte (by omega)) W (ht.below hW ht.lt)
  rw [← hp] at KP HPL kpg
  have HBN := Lib.hid hb
  have HKN := Lib.hid hkn
  have HST := Lib.hid hst
  have H1 := Lib.hid h1
  have H18 := Lib.hid (And.intro hb18 hk8)
  have HB := Lib.hid hB
  have HTN := Lib.hid htn
  have HNX := Lib.hid hnx
  have HONE := Lib.hid (show ∀ v ∈ bv p, v.oneCell' = true from fun v => bv_one)
  clear hb hb18 hk8 htn hnx h1 hB hst hkn
  have KG := Lib.hid kpg
  have HPD := Lib.hid hp
  clear hp
  have HK := Lib.hid hk
  obtain ⟨nb, hnb⟩ : ∃ nb, nb = o.next := ⟨_, rfl⟩
  obtain ⟨q0, hq0⟩ : ∃ q0, q0 = there 24 o.b 0 := ⟨_, rfl⟩
  have hkk : k = if nb && q0 then ((Bs.getD o.b.toNat RB.blank).nx : Int) else o.p := by rw [hnb, hq0]; exact hk
  have HKK := Lib.hid hkk
  have HQ0 := Lib.hid hq0
  rw [← hnb] at c6
  rw [← hq0] at h0
  clear hT hR hl hy ht kP hk kpg b0 O0 hnb hkk hq0 hj HK
  have main : ∀ nb' q', nb = nb' → q0 = q' → True := fun _ _ _ _ => trivial
  clear main
  cases nb with
  | false =>
    have hk : o.p = k := by have := HKK.out; simpa using this.symm
    clear h0 HKK
    go_enter Tryz.func9, Tryz.ntmps9
    go_wp2_with fail
    obtain ⟨W1, hW1⟩ : ∃ W1, W1 = w.alloc (.cells o.row.toArray 35) := ⟨_, rfl⟩
    rw [← hW1] at HB0 HO c1 c2 c5 c6 hsl0 ⊢
    clear hW1 hk
    have kg := KG.out W1 HB0.out
    go_wp2_with (first
      | ((with_reducible refine kg.mono ?_); rintro e w2 ⟨rfl, b2⟩; have N2 := PArr.new w2 pzeros_length)
      | ((with_reducible refine wpl_pstore (.tmp 11) (.tmp 36) rfl rfl N2 rfl HPL.out rfl ?_); intro w3 N3 g3 e3; have B3 := page_new b2 g3; have d1 : w3.cell? ⟨w.heap.size, 1, none⟩ = some (.int .i64 o.b) := (HO.out.after B3).cell 1; have k4 := KP.out _ (HB0.out.trans (B3.mono HB0.out.size)))
      | (with_reducible refine wpl_pload (.tmp 11) rfl rfl N3 rfl ?_))
    have hgp : Hid (¬ T w2.heap.size) := Lib.hid (fun q => by have := HT.out _ q; have := HB0.out.size; have := b2.size; omega)
    have hgo : Hid (¬ T w.heap.size) := Lib.hid (fun q => by have := HT.out _ q; omega)
    ((with_reducible refine k4.mono ?_); rintro e w5 ⟨r, rfl, hRr, R5, c5x⟩)
    have O5 := (HO.out.after B3).chg c5x hgo.out
    have N5 := N3.chg c5x hgp.out
    have B3w := HB0.out.trans (B3.mono HB0.out.size)
    have e1 : w5.cell? ⟨w.heap.size, 1, none⟩ = some (.int .i64 o.b) := O5.cell 1
    have C5 : Chg w w5 T := (Chg.of_below B3w).trans c5x
    have h6 := there_any R5 HL.out o.b k
    have hsl5 := R5.sl
    rw [HL.out] at hsl5
    obtain ⟨gp, hgpe⟩ : ∃ gp, gp = w2.heap.size := ⟨_, rfl⟩
    simp only [← hgpe]
    rw [← hgpe] at N5 hgp
    have hgpg : Hid (gp ≠ g ∧ w.heap.size ≤ gp) := Lib.hid (by rw [hgpe]; have := HR.out.rg.lt; have := HB0.out.size; have := b2.size; exact ⟨by omega, by omega⟩)
    clear kg k4 N2 N3 g3 e3 B3 b2 d1 c1 c2 c5 c6 hsl0 hgpe KP KG HB0 HO c5x B3w
    rcases H1.out _ _ hRr with hr | hr
    · subst hr
      have hnxe := HNX.out
      have heq : ((kn : Int) != (B.nx : Int)) = false := by simp; omega
      have hbo := HBN.out
      have hkn := HKN.out
      subst hkn
      rw [hbo] at e1 h6
      rw [show there 24 (b : Int) (kn : Int) = true from decide_eq_true (by have := H18.out; omega)] at h6
      have hb18i : (b : Int) < 18 := by have := H18.out; omega
      have hk8i : (kn : Int) < 8 := by have := H18.out; omega
      have hBs5 : b < Bs.length := by rw [HL.out]; exact H18.out.1
      have hBB : Bs[b]'hBs5 = B := (List.getElem?_eq_some_iff.1 HB.out).2
      have hBok : B.ok := by rw [← hBB]; exact R5.rg.at_ hBs5
      have RDr : RG w5.drew g Bs := ⟨R5.rg.blk, R5.rg.oks⟩
      have htc : w5.drew.cell? ⟨g, b * 2074 + 2073, none⟩ = some (.bool false) := by
        rw [RDr.cell hBs5 (by omega), hBB, RB.row_torn hBok, HTN.out]
      have hnc : w5.drew.cell? ⟨g, b * 2074 + 2072, none⟩ = some (.int .i64 (B.nx : Int)) := by
        rw [RDr.cell hBs5 (by omega), hBB, RB.row_nx hBok]
      have S0 : w5.drew.cell? ⟨m, 0, none⟩ = some (.slice (some ⟨g, 0, none⟩) 18 18) ∧ w5.drew.cell? ⟨w.heap.size, 1, none⟩ = some (.int .i64 (b : Int)) := ⟨hsl5, e1⟩
      go_wp2_with ((with_reducible refine h6.mono ?_); rintro e w' ⟨rfl, rfl⟩)
      refine wp_region_held_drew (S := fun w' => w'.cell? ⟨m, 0, none⟩ = some (.slice (some ⟨g, 0, none⟩) 18 18) ∧ w'.cell? ⟨w.heap.size, 1, none⟩ = some (.int .i64 (b : Int))) (by kernel_rfl) S0 (fun _ => ?_)
      refine wpAnyH_take (i := 0) (v := .pointer (some ⟨m, 0, none⟩)) rfl (by kernel_rfl) (by kernel_rfl) (by kernel_rfl) (fun _ _ _ h => h) (Or.inl ⟨by kernel_rfl, fun w _ => by go_simp⟩) S0 ?_
      refine wpAnyH_take (i := 1) (v := .pointer (some ⟨m, 0, none⟩)) rfl (by kernel_rfl) (by kernel_rfl) (by kernel_rfl) (fun _ _ _ h => h) (Or.inl ⟨by kernel_rfl, fun w _ => by go_simp⟩) S0 ?_
      refine wpAnyH_take (i := 2) (v := .pointer (some ⟨m, 0, none⟩)) rfl (by kernel_rfl) (by kernel_rfl) (by kernel_rfl) (fun _ _ _ h => h) (Or.inl ⟨by kernel_rfl, fun w _ => by go_simp⟩) S0 ?_
      refine wpAnyH_take (i := 3) (v := .slice (some ⟨g, 0, none⟩) 18 18) rfl (by kernel_rfl) (by kernel_rfl) (by kernel_rfl) (fun _ _ _ h => h) (yields_one (ty := 59) (fun w => by kernel_rfl) (.tmp 64) (by kernel_rfl) (by kernel_rfl) (by kernel_rfl) (fun _ h => h.1)) S0 ?_
      refine wpAnyH_take (i := 4) (v := .pointer (some ⟨w.heap.size, 1, none⟩)) rfl (by kernel_rfl) (by kernel_rfl) (by kernel_rfl) (fun _ _ _ h => h) (Or.inl ⟨by kernel_rfl, fun w _ => by go_simp⟩) S0 ?_
      refine wpAnyH_take (i := 5) (v := .int .i64 (b : Int)) rfl (by kernel_rfl) (by kernel_rfl) (by kernel_rfl) (fun _ _ _ h => h) (yields_one (ty := 3) (fun w => by kernel_rfl) (.tmp 66) (by kernel_rfl) (by kernel_rfl) (by kernel_rfl) (fun _ h => h.2)) S0 ?_
      refine wpAnyH_take (i := 6) (v := .pointer (some ⟨g, b * 2074, none⟩)) rfl (by kernel_rfl) (by kernel_rfl) (by kernel_rfl) (fun _ _ _ h => h) (Or.inl ⟨by kernel_rfl, fun w _ => by go_simp⟩) S0 ?_
      refine wpAnyH_take (i := 7) (v := .pointer (some ⟨g, b * 2074, none⟩)) rfl (by kernel_rfl) (by kernel_rfl) (by kernel_rfl) (fun _ _ _ h => h) (Or.inl ⟨by kernel_rfl, fun w _ => by go_simp⟩) S0 ?_
      refine wpAnyH_done (by kernel_rfl) ?_ _
      clear S0 htc hnc
      have hnc : w5.drew.cell? ⟨g, b * 2074 + 2072, none⟩ = some (.int .i64 (kn : Int)) := by
        rw [RDr.cell hBs5 (by omega), hBB, RB.row_nx hBok, hnxe]
      have htc : w5.drew.cell? ⟨g, b * 2074 + 2073, none⟩ = some (.bool false) := by
        rw [RDr.cell hBs5 (by omega), hBB, RB.row_torn hBok, HTN.out]
      have hok1 := RB.setNx_ok hBok (kn + 1)
      have hs1 := RDr.setCell hBs5 (i := 2072) (by omega) (.int .i64 ((kn : Int) + 1)) (B' := B.setNx (kn + 1)) (by rw [hBB, show ((kn : Int) + 1) = ((kn + 1 : Nat) : Int) by omega]; exact RB.set_nx hBok (kn + 1))
      have HS1 := Lib.hid hs1
      have HLN := Lib.hid RDr.len
      have hmul : (b + 1) * 2074 ≤ Bs.length * 2074 := Nat.mul_le_mul_right _ hBs5
      have hmul2 : (b + 1) * 2074 = b * 2074 + 2074 := Nat.succ_mul b 2074
      have HM := Lib.hid (And.intro hmul hmul2)
      have HGB := Lib.hid RDr.blk
      have N5d : PArr w5.drew gp p := N5
      clear hs1 hmul hmul2
      go_wp2_with ((with_reducible refine wpl_blk_int .i64 ((kn : Int) + 1) int_one (.tmp 114) (.tmp 112) rfl rfl HGB.out (b * 2074 + 2072) (by rw [HLN.out]; have := HM.out; omega) rfl rfl _ HS1.out ?_); intro w6 N6 g6 e6)
      have R5d : RD w5.drew m g Bs := ⟨R5.hd, RDr, R5.ne⟩
      have R6 : RD w6 m g (Bs.set b (B.setNx (kn + 1))) := R5d.set hok1 N6 g6
      have M6 : PArr w6 gp p := N5d.grown g6 (fun q => hgpg.out.1 q)
      have hl6 : b < (Bs.set b (B.setNx (kn + 1))).length := by rw [List.length_set]; exact hBs5
      have hb6 : (Bs.set b (B.setNx (kn + 1)))[b]'hl6 = B.setNx (kn + 1) := List.getElem_set_self hl6
      have R6d : RG w6.drew g (Bs.set b (B.setNx (kn + 1))) := ⟨R6.rg.blk, R6.rg.oks⟩
      have hok2 := RB.setPage_ok hok1 kn HPL.out
      have hbl : (bv p).length = 258 := by rw [bv_length]; exact HPL.out
      have hs2 := R6d.segSet hl6 (o := kn * 258) (vs := bv p) (B' := (B.setNx (kn + 1)).setPage kn p) (by rw [hb6]; exact RB.set_page hok1 H18.out.2 HPL.out) (by rw [hbl]; have := H18.out; omega) hok2
      obtain ⟨w7, hst7, N7, g7, e7⟩ := seg_cells_at (P := Tryz.prog) (w := w6.drew) (i := b * 2074 + kn * 258) (vs := bv p) R6d.blk (by rw [hbl, R6d.len, List.length_set]; have := HM.out; have := H18.out; omega) HONE.out
      rw [hs2, List.set_set] at N7
      have R7 : RD w7 m g (Bs.set b ((B.setNx (kn + 1)).setPage kn p)) := by
        have := (show RD w6.drew m g (Bs.set b (B.setNx (kn + 1))) from ⟨R6.hd, R6d, R6.ne⟩).set (b := b) hok2 (by rw [List.set_set]; exact N7) g7
        rw [List.set_set] at this
        exact this
      have hl7 : b < (Bs.set b ((B.setNx (kn + 1)).setPage kn p)).length := by rw [List.length_set]; exact hBs5
      have hb7 : (Bs.set b ((B.setNx (kn + 1)).setPage kn p))[b]'hl7 = (B.setNx (kn + 1)).setPage kn p := List.getElem_set_self hl7
      have hc7 : w7.cell? ⟨g, b * 2074 + 2064 + kn, none⟩ = some (.bool (((B.setNx (kn + 1)).setPage kn p).sure.getD kn false)) := by
        rw [Nat.add_assoc, R7.rg.cell hl7 (by have := H18.out; omega), hb7, RB.row_sure hok2 H18.out.2]
      have hf7 : w7.frozen? ⟨g, b * 2074 + 2064 + kn, none⟩ = false := R7.rg.blk.free _
      have N8 := R7.rg.blk.set (b * 2074 + 2064 + kn) (.bool true)
      rw [Nat.add_assoc, R7.rg.setCell hl7 (i := 2064 + kn) (by have := H18.out; omega) (.bool true) (B' := stepB B kn p true) (by rw [hb7]; exact RB.set_sure hok2 H18.out.2 true), List.set_set] at N8
      have g8 : w7.grownBy (w7.setCell ⟨g, b * 2074 + (2064 + kn), none⟩ (.bool true)) (some g) := ⟨rfl, rfl, rfl, by simp, fun k _ hk => heap_setCell_other w7 _ k _ (by simpa using hk)⟩
      have R8 : RD (w7.setCell ⟨g, b * 2074 + (2064 + kn), none⟩ (.bool true)) m g (Bs.set b (stepB B kn p true)) := by
        have := R7.set (b := b) (B' := stepB B kn p true) (stepB_ok hBok kn HPL.out true) (by rw [List.set_set]; exact N8) g8
        rw [List.set_set] at this
        exact this
      rw [← Nat.add_assoc] at R8 g8
      have S0 : PArr w6.drew gp p := M6
      have M7 : PArr w7 gp p := (show PArr w6.drew gp p from M6).grown g7 (fun q => hgpg.out.1 q)
      have M8 : PArr (w7.setCell ⟨g, b * 2074 + 2064 + kn, none⟩ (.bool true)) gp p := M7.grown g8 (fun q => hgpg.out.1 q)
      have C8 : Chg w5 (w7.setCell ⟨g, b * 2074 + 2064 + kn, none⟩ (.bool true)) (fun j => j = g) := (((Chg.of_below ((Below.refl _ _).drew)).trans (Chg.of_grown g6 (fun k e => Option.some.inj e))).trans ((Chg.of_below ((Below.refl _ _).drew)).trans (Chg.of_grown g7 (fun k e => Option.some.inj e)))).trans (Chg.of_grown g8 (fun k e => Option.some.inj e))
      clear hnc htc N6 N7 N8 R6 R7 R6d g6 g7 g8 e6 e7 hs2 hl6 hb6 hl7 hb7 hok1 hok2 hsl5
      refine wp_region_held_drew (S := fun w' => PArr w' gp p) (by kernel_rfl) S0 (fun _ => ?_)
      refine wpAnyH_take (i := 0) (v := .pointer (some ⟨g, b * 2074, none⟩)) rfl (by kernel_rfl) (by kernel_rfl) (by kernel_rfl) (fun _ _ _ h => h) (Or.inl ⟨by kernel_rfl, fun w _ => by go_simp⟩) S0 ?_
      refine wpAnyH_take (i := 1) (v := .int .i64 (kn : Int)) rfl (by kernel_rfl) (by kernel_rfl) (by kernel_rfl) (fun _ _ _ h => h) (Or.inl ⟨by kernel_rfl, fun w _ => by go_simp⟩) S0 ?_
      refine wpAnyH_take (i := 2) (v := .pointer (some ⟨g, b * 2074, none⟩)) rfl (by kernel_rfl) (by kernel_rfl) (by kernel_rfl) (fun _ _ _ h => h) (Or.inl ⟨by kernel_rfl, fun w _ => by go_simp⟩) S0 ?_
      refine wpAnyH_take (i := 3) (v := .int .i64 (kn : Int)) rfl (by kernel_rfl) (by kernel_rfl) (by kernel_rfl) (fun _ _ _ h => h) (Or.inl ⟨by kernel_rfl, fun w _ => by go_simp⟩) S0 ?_
      refine wpAnyH_take (i := 4) (v := .agg (bv p).toArray) rfl (by kernel_rfl) (by kernel_rfl) (by kernel_rfl) (fun _ _ _ h => h) (yields_ploadb (g := gp) (.tmp 11) (by kernel_rfl) (by kernel_rfl) (by kernel_rfl) (fun _ h => h)) S0 ?_
      refine wpAnyH_take (i := 5) (v := .int .i64 0) rfl (by kernel_rfl) (by kernel_rfl) (by kernel_rfl) (fun _ _ _ h => h) (Or.inl ⟨by kernel_rfl, fun w _ => by go_simp⟩) S0 ?_
      refine wpAnyH_take (i := 6) (v := .bool true) rfl (by kernel_rfl) (by kernel_rfl) (by kernel_rfl) (fun _ _ _ h => h) (Or.inl ⟨by kernel_rfl, fun w _ => by go_simp⟩) S0 ?_
      refine wpAnyH_take (i := 7) (v := .pointer (some ⟨g, b * 2074, none⟩)) rfl (by kernel_rfl) (by kernel_rfl) (by kernel_rfl) (fun _ _ _ h => h) (Or.inl ⟨by kernel_rfl, fun w _ => by go_simp⟩) S0 ?_
      refine wpAnyH_take (i := 8) (v := .pointer (some ⟨g, b * 2074, none⟩)) rfl (by kernel_rfl) (by kernel_rfl) (by kernel_rfl) (fun _ _ _ h => h) (Or.inl ⟨by kernel_rfl, fun w _ => by go_simp⟩) S0 ?_
      refine wpAnyH_take (i := 9) (v := .pointer (some ⟨g, b * 2074 + kn * 258, none⟩)) rfl (by kernel_rfl) (by kernel_rfl) (by kernel_rfl) (fun _ _ _ h => h) (Or.inl ⟨by kernel_rfl, fun w _ => by go_simp⟩) S0 ?_
      refine wpAnyH_take (i := 11) (v := .pointer (some ⟨g, b * 2074, none⟩)) rfl (by kernel_rfl) (by kernel_rfl) (by kernel_rfl) (fun _ _ _ h => h) (Or.inl ⟨by kernel_rfl, fun w _ => by go_simp⟩) S0 ?_
      refine wpAnyH_take (i := 12) (v := .pointer (some ⟨g, b * 2074 + 2064, none⟩)) rfl (by kernel_rfl) (by kernel_rfl) (by kernel_rfl) (fun _ _ _ h => h) (Or.inl ⟨by kernel_rfl, fun w _ => by go_simp⟩) S0 ?_
      refine wpAnyH_ready (rs := [10]) (by kernel_rfl) (by simp) (AllReadyH.cons rfl (fun K hK => ?_) AllReadyH.nil)
      go_simp
      refine hK.out _ _ M7 (fun _ => ?_)
      clear hK K
      refine wpAnyH_take (i := 13) (v := .pointer (some ⟨g, b * 2074 + 2064 + kn, none⟩)) rfl (by kernel_rfl) (by kernel_rfl) (by kernel_rfl) (fun _ _ _ h => h) (Or.inl ⟨by kernel_rfl, fun w _ => by go_simp⟩) M7 ?_
      refine wpAnyH_ready (rs := [14]) (by kernel_rfl) (by simp) (AllReadyH.cons rfl (fun K hK => ?_) AllReadyH.nil)
      go_simp
      refine hK.out _ _ M8 (fun _ => ?_)
      clear hK K
      refine wpAnyH_done (by kernel_rfl) ?_ _
      clear S0 M7 M8 M6
      go_wp2_with fail
      go_ret2
      exact ⟨0, rfl, HST.out _ _ _ hRr C8, by rw [← HPD.out]; exact R8, (C5.more (fun k _ q => .inl q)).trans (C8.more (fun k _ q => .inr q))⟩
    · subst hr
      have hnxe := HNX.out
      have heq : ((kn : Int) != (B.nx : Int)) = false := by simp; omega
      have hbo := HBN.out
      have hkn := HKN.out
      subst hkn
      rw [hbo] at e1 h6
      rw [show there 24 (b : Int) (kn : Int) = true from decide_eq_true (by have := H18.out; omega)] at h6
      have hb18i : (b : Int) < 18 := by have := H18.out; omega
      have hk8i : (kn : Int) < 8 := by have := H18.out; omega
      have hBs5 : b < Bs.length := by rw [HL.out]; exact H18.out.1
      have hBB : Bs[b]'hBs5 = B := (List.getElem?_eq_some_iff.1 HB.out).2
      have hBok : B.ok := by rw [← hBB]; exact R5.rg.at_ hBs5
      have RDr : RG w5.drew g Bs := ⟨R5.rg.blk, R5.rg.oks⟩
      have htc : w5.drew.cell? ⟨g, b * 2074 + 2073, none⟩ = some (.bool false) := by
        rw [RDr.cell hBs5 (by omega), hBB, RB.row_torn hBok, HTN.out]
      have hnc : w5.drew.cell? ⟨g, b * 2074 + 2072, none⟩ = some (.int .i64 (B.nx : Int)) := by
        rw [RDr.cell hBs5 (by omega), hBB, RB.row_nx hBok]
      have S0 : w5.drew.cell? ⟨m, 0, none⟩ = some (.slice (some ⟨g, 0, none⟩) 18 18) ∧ w5.drew.cell? ⟨w.heap.size, 1, none⟩ = some (.int .i64 (b : Int)) := ⟨hsl5, e1⟩
      go_wp2_with ((with_reducible refine h6.mono ?_); rintro e w' ⟨rfl, rfl⟩)
      refine wp_region_held_drew (S := fun w' => w'.cell? ⟨m, 0, none⟩ = some (.slice (some ⟨g, 0, none⟩) 18 18) ∧ w'.cell? ⟨w.heap.size, 1, none⟩ = some (.int .i64 (b : Int))) (by kernel_rfl) S0 (fun _ => ?_)
      refine wpAnyH_take (i := 0) (v := .pointer (some ⟨m, 0, none⟩)) rfl (by kernel_rfl) (by kernel_rfl) (by kernel_rfl) (fun _ _ _ h => h) (Or.inl ⟨by kernel_rfl, fun w _ => by go_simp⟩) S0 ?_
      refine wpAnyH_take (i := 1) (v := .pointer (some ⟨m, 0, none⟩)) rfl (by kernel_rfl) (by kernel_rfl) (by kernel_rfl) (fun _ _ _ h => h) (Or.inl ⟨by kernel_rfl, fun w _ => by go_simp⟩) S0 ?_
      refine wpAnyH_take (i := 2) (v := .pointer (some ⟨m, 0, none⟩)) rfl (by kernel_rfl) (by kernel_rfl) (by kernel_rfl) (fun _ _ _ h => h) (Or.inl ⟨by kernel_rfl, fun w _ => by go_simp⟩) S0 ?_
      refine wpAnyH_take (i := 3) (v := .slice (some ⟨g, 0, none⟩) 18 18) rfl (by kernel_rfl) (by kernel_rfl) (by kernel_rfl) (fun _ _ _ h => h) (yields_one (ty := 59) (fun w => by kernel_rfl) (.tmp 64) (by kernel_rfl) (by kernel_rfl) (by kernel_rfl) (fun _ h => h.1)) S0 ?_
      refine wpAnyH_take (i := 4) (v := .pointer (some ⟨w.heap.size, 1, none⟩)) rfl (by kernel_rfl) (by kernel_rfl) (by kernel_rfl) (fun _ _ _ h => h) (Or.inl ⟨by kernel_rfl, fun w _ => by go_simp⟩) S0 ?_
      refine wpAnyH_take (i := 5) (v := .int .i64 (b : Int)) rfl (by kernel_rfl) (by kernel_rfl) (by kernel_rfl) (fun _ _ _ h => h) (yields_one (ty := 3) (fun w => by kernel_rfl) (.tmp 66) (by kernel_rfl) (by kernel_rfl) (by kernel_rfl) (fun _ h => h.2)) S0 ?_
      refine wpAnyH_take (i := 6) (v := .pointer (some ⟨g, b * 2074, none⟩)) rfl (by kernel_rfl) (by kernel_rfl) (by kernel_rfl) (fun _ _ _ h => h) (Or.inl ⟨by kernel_rfl, fun w _ => by go_simp⟩) S0 ?_
      refine wpAnyH_take (i := 7) (v := .pointer (some ⟨g, b * 2074, none⟩)) rfl (by kernel_rfl) (by kernel_rfl) (by kernel_rfl) (fun _ _ _ h => h) (Or.inl ⟨by kernel_rfl, fun w _ => by go_simp⟩) S0 ?_
      refine wpAnyH_done (by kernel_rfl) ?_ _
      clear S0 htc hnc
      have hnc : w5.drew.cell? ⟨g, b * 2074 + 2072, none⟩ = some (.int .i64 (kn : Int)) := by
        rw [RDr.cell hBs5 (by omega), hBB, RB.row_nx hBok, hnxe]
      have htc : w5.drew.cell? ⟨g, b * 2074 + 2073, none⟩ = some (.bool false) := by
        rw [RDr.cell hBs5 (by omega), hBB, RB.row_torn hBok, HTN.out]
      have hok1 := RB.setNx_ok hBok (kn + 1)
      have hs1 := RDr.setCell hBs5 (i := 2072) (by omega) (.int .i64 ((kn : Int) + 1)) (B' := B.setNx (kn + 1)) (by rw [hBB, show ((kn : Int) + 1) = ((kn + 1 : Nat) : Int) by omega]; exact RB.set_nx hBok (kn + 1))
      have HS1 := Lib.hid hs1
      have HLN := Lib.hid RDr.len
      have hmul : (b + 1) * 2074 ≤ Bs.length * 2074 := Nat.mul_le_mul_right _ hBs5
      have hmul2 : (b + 1) * 2074 = b * 2074 + 2074 := Nat.succ_mul b 2074
      have HM := Lib.hid (And.intro hmul hmul2)
      have HGB := Lib.hid RDr.blk
      have N5d : PArr w5.drew gp p := N5
      clear hs1 hmul hmul2
      go_wp2_with ((with_reducible refine wpl_blk_int .i64 ((kn : Int) + 1) int_one (.tmp 114) (.tmp 112) rfl rfl HGB.out (b * 2074 + 2072) (by rw [HLN.out]; have := HM.out; omega) rfl rfl _ HS1.out ?_); intro w6 N6 g6 e6)
      have R5d : RD w5.drew m g Bs := ⟨R5.hd, RDr, R5.ne⟩
      have R6 : RD w6 m g (Bs.set b (B.setNx (kn + 1))) := R5d.set hok1 N6 g6
      have M6 : PArr w6 gp p := N5d.grown g6 (fun q => hgpg.out.1 q)
      have hl6 : b < (Bs.set b (B.setNx (kn + 1))).length := by rw [List.length_set]; exact hBs5
      have hb6 : (Bs.set b (B.setNx (kn + 1)))[b]'hl6 = B.setNx (kn + 1) := List.getElem_set_self hl6
      have R6d : RG w6.drew g (Bs.set b (B.setNx (kn + 1))) := ⟨R6.rg.blk, R6.rg.oks⟩
      have hok2 := RB.setPage_ok hok1 kn HPL.out
      have hbl : (bv p).length = 258 := by rw [bv_length]; exact HPL.out
      have hs2 := R6d.segSet hl6 (o := kn * 258) (vs := bv p) (B' := (B.setNx (kn + 1)).setPage kn p) (by rw [hb6]; exact RB.set_page hok1 H18.out.2 HPL.out) (by rw [hbl]; have := H18.out; omega) hok2
      obtain ⟨w7, hst7, N7, g7, e7⟩ := seg_cells_at (P := Tryz.prog) (w := w6.drew) (i := b * 2074 + kn * 258) (vs := bv p) R6d.blk (by rw [hbl, R6d.len, List.length_set]; have := HM.out; have := H18.out; omega) HONE.out
      rw [hs2, List.set_set] at N7
      have R7 : RD w7 m g (Bs.set b ((B.setNx (kn + 1)).setPage kn p)) := by
        have := (show RD w6.drew m g (Bs.set b (B.setNx (kn + 1))) from ⟨R6.hd, R6d, R6.ne⟩).set (b := b) hok2 (by rw [List.set_set]; exact N7) g7
        rw [List.set_set] at this
        exact this
      have hl7 : b < (Bs.set b ((B.setNx (kn + 1)).setPage kn p)).length := by rw [List.length_set]; exact hBs5
      have hb7 : (Bs.set b ((B.setNx (kn + 1)).setPage kn p))[b]'hl7 = (B.setNx (kn + 1)).setPage kn p := List.getElem_set_self hl7
      have hc7 : w7.cell? ⟨g, b * 2074 + 2064 + kn, none⟩ = some (.bool (((B.setNx (kn + 1)).setPage kn p).sure.getD kn false)) := by
        rw [Nat.add_assoc, R7.rg.cell hl7 (by have := H18.out; omega), hb7, RB.row_sure hok2 H18.out.2]
      have hf7 : w7.frozen? ⟨g, b * 2074 + 2064 + kn, none⟩ = false := R7.rg.blk.free _
      have N8 := R7.rg.blk.set (b * 2074 + 2064 + kn) (.bool false)
      rw [Nat.add_assoc, R7.rg.setCell hl7 (i := 2064 + kn) (by have := H18.out; omega) (.bool false) (B' := stepB B kn p false) (by rw [hb7]; exact RB.set_sure hok2 H18.out.2 false), List.set_set] at N8
      have g8 : w7.grownBy (w7.setCell ⟨g, b * 2074 + (2064 + kn), none⟩ (.bool false)) (some g) := ⟨rfl, rfl, rfl, by simp, fun k _ hk => heap_setCell_other w7 _ k _ (by simpa using hk)⟩
      have R8 : RD (w7.setCell ⟨g, b * 2074 + (2064 + kn), none⟩ (.bool false)) m g (Bs.set b (stepB B kn p false)) := by
        have := R7.set (b := b) (B' := stepB B kn p false) (stepB_ok hBok kn HPL.out false) (by rw [List.set_set]; exact N8) g8
        rw [List.set_set] at this
        exact this
      rw [← Nat.add_assoc] at R8 g8
      have S0 : PArr w6.drew gp p := M6
      have M7 : PArr w7 gp p := (show PArr w6.drew gp p from M6).grown g7 (fun q => hgpg.out.1 q)
      have M8 : PArr (w7.setCell ⟨g, b * 2074 + 2064 + kn, none⟩ (.bool false)) gp p := M7.grown g8 (fun q => hgpg.out.1 q)
      have C8 : Chg w5 (w7.setCell ⟨g, b * 2074 + 2064 + kn, none⟩ (.bool false)) (fun j => j = g) := (((Chg.of_below ((Below.refl _ _).drew)).trans (Chg.of_grown g6 (fun k e => Option.some.inj e))).trans ((Chg.of_below ((Below.refl _ _).drew)).trans (Chg.of_grown g7 (fun k e => Option.some.inj e)))).trans (Chg.of_grown g8 (fun k e => Option.some.inj e))
      clear hnc htc N6 N7 N8 R6 R7 R6d g6 g7 g8 e6 e7 hs2 hl6 hb6 hl7 hb7 hok1 hok2 hsl5
      refine wp_region_held_drew (S := fun w' => PArr w' gp p) (by kernel_rfl) S0 (fun _ => ?_)
      refine wpAnyH_take (i := 0) (v := .pointer (some ⟨g, b * 2074, none⟩)) rfl (by kernel_rfl) (by kernel_rfl) (by kernel_rfl) (fun _ _ _ h => h) (Or.inl ⟨by kernel_rfl, fun w _ => by go_simp⟩) S0 ?_
      refine wpAnyH_take (i := 1) (v := .int .i64 (kn : Int)) rfl (by kernel_rfl) (by kernel_rfl) (by kernel_rfl) (fun _ _ _ h => h) (Or.inl ⟨by kernel_rfl, fun w _ => by go_simp⟩) S0 ?_
      refine wpAnyH_take (i := 2) (v := .pointer (some ⟨g, b * 2074, none⟩)) rfl (by kernel_rfl) (by kernel_rfl) (by kernel_rfl) (fun _ _ _ h => h) (Or.inl ⟨by kernel_rfl, fun w _ => by go_simp⟩) S0 ?_
      refine wpAnyH_take (i := 3) (v := .int .i64 (kn : Int)) rfl (by kernel_rfl) (by kernel_rfl) (by kernel_rfl) (fun _ _ _ h => h) (Or.inl ⟨by kernel_rfl, fun w _ => by go_simp⟩) S0 ?_
      refine wpAnyH_take (i := 4) (v := .agg (bv p).toArray) rfl (by kernel_rfl) (by kernel_rfl) (by kernel_rfl) (fun _ _ _ h => h) (yields_ploadb (g := gp) (.tmp 11) (by kernel_rfl) (by kernel_rfl) (by kernel_rfl) (fun _ h => h)) S0 ?_
      refine wpAnyH_take (i := 5) (v := .int .i64 30) rfl (by kernel_rfl) (by kernel_rfl) (by kernel_rfl) (fun _ _ _ h => h) (Or.inl ⟨by kernel_rfl, fun w _ => by go_simp⟩) S0 ?_
      refine wpAnyH_take (i := 6) (v := .bool false) rfl (by kernel_rfl) (by kernel_rfl) (by kernel_rfl) (fun _ _ _ h => h) (Or.inl ⟨by kernel_rfl, fun w _ => by go_simp⟩) S0 ?_
      refine wpAnyH_take (i := 7) (v := .pointer (some ⟨g, b * 2074, none⟩)) rfl (by kernel_rfl) (by kernel_rfl) (by kernel_rfl) (fun _ _ _ h => h) (Or.inl ⟨by kernel_rfl, fun w _ => by go_simp⟩) S0 ?_
      refine wpAnyH_take (i := 8) (v := .pointer (some ⟨g, b * 2074, none⟩)) rfl (by kernel_rfl) (by kernel_rfl) (by kernel_rfl) (fun _ _ _ h => h) (Or.inl ⟨by kernel_rfl, fun w _ => by go_simp⟩) S0 ?_
      refine wpAnyH_take (i := 9) (v := .pointer (some ⟨g, b * 2074 + kn * 258, none⟩)) rfl (by kernel_rfl) (by kernel_rfl) (by kernel_rfl) (fun _ _ _ h => h) (Or.inl ⟨by kernel_rfl, fun w _ => by go_simp⟩) S0 ?_
      refine wpAnyH_take (i := 11) (v := .pointer (some ⟨g, b * 2074, none⟩)) rfl (by kernel_rfl) (by kernel_rfl) (by kernel_rfl) (fun _ _ _ h => h) (Or.inl ⟨by kernel_rfl, fun w _ => by go_simp⟩) S0 ?_
      refine wpAnyH_take (i := 12) (v := .pointer (some ⟨g, b * 2074 + 2064, none⟩)) rfl (by kernel_rfl) (by kernel_rfl) (by kernel_rfl) (fun _ _ _ h => h) (Or.inl ⟨by kernel_rfl, fun w _ => by go_simp⟩) S0 ?_
      refine wpAnyH_ready (rs := [10]) (by kernel_rfl) (by simp) (AllReadyH.cons rfl (fun K hK => ?_) AllReadyH.nil)
      go_simp
      refine hK.out _ _ M7 (fun _ => ?_)
      clear hK K
      refine wpAnyH_take (i := 13) (v := .pointer (some ⟨g, b * 2074 + 2064 + kn, none⟩)) rfl (by kernel_rfl) (by kernel_rfl) (by kernel_rfl) (fun _ _ _ h => h) (Or.inl ⟨by kernel_rfl, fun w _ => by go_simp⟩) M7 ?_
      refine wpAnyH_ready (rs := [14]) (by kernel_rfl) (by simp) (AllReadyH.cons rfl (fun K hK => ?_) AllReadyH.nil)
      go_simp
      refine hK.out _ _ M8 (fun _ => ?_)
      clear hK K
      refine wpAnyH_done (by kernel_rfl) ?_ _
      clear S0 M7 M8 M6
      go_wp2_with fail
      go_ret2
      exact ⟨30, rfl, HST.out _ _ _ hRr C8, by rw [← HPD.out]; exact R8, (C5.more (fun k _ q => .inl q)).trans (C8.more (fun k _ q => .inr q))⟩
  | true =>
    cases q0 with
    | false =>
      have hk : o.p = k := by have := HKK.out; simpa using this.symm
      clear HKK
      go_enter Tryz.func9, Tryz.ntmps9
      go_wp2_with ((with_reducible refine h0.mono ?_); rintro e w' ⟨rfl, rfl⟩)
      obtain ⟨W1, hW1⟩ : ∃ W1, W1 = w.alloc (.cells o.row.toArray 35) := ⟨_, rfl⟩
      rw [← hW1] at HB0 HO c1 c2 c5 c6 hsl0 ⊢
      clear hW1 hk h0
      have kg := KG.out W1 HB0.out
      go_wp2_with (first
        | ((with_reducible refine kg.mono ?_); rintro e w2 ⟨rfl, b2⟩; have N2 := PArr.new w2 pzeros_length)
        | ((with_reducible refine wpl_pstore (.tmp 11) (.tmp 36) rfl rfl N2 rfl HPL.out rfl ?_); intro w3 N3 g3 e3; have B3 := page_new b2 g3; have d1 : w3.cell? ⟨w.heap.size, 1, none⟩ = some (.int .i64 o.b) := (HO.out.after B3).cell 1; have k4 := KP.out _ (HB0.out.trans (B3.mono HB0.out.size)))
        | (with_reducible refine wpl_pload (.tmp 11) rfl rfl N3 rfl ?_))
      have hgp : Hid (¬ T w2.heap.size) := Lib.hid (fun q => by have := HT.out _ q; have := HB0.out.size; have := b2.size; omega)
      have hgo : Hid (¬ T w.heap.size) := Lib.hid (fun q => by have := HT.out _ q; omega)
      ((with_reducible refine k4.mono ?_); rintro e w5 ⟨r, rfl, hRr, R5, c5x⟩)
      have O5 := (HO.out.after B3).chg c5x hgo.out
      have N5 := N3.chg c5x hgp.out
      have B3w := HB0.out.trans (B3.mono HB0.out.size)
      have e1 : w5.cell? ⟨w.heap.size, 1, none⟩ = some (.int .i64 o.b) := O5.cell 1
      have C5 : Chg w w5 T := (Chg.of_below B3w).trans c5x
      have h6 := there_any R5 HL.out o.b k
      have hsl5 := R5.sl
      rw [HL.out] at hsl5
      obtain ⟨gp, hgpe⟩ : ∃ gp, gp = w2.heap.size := ⟨_, rfl⟩
      simp only [← hgpe]
      rw [← hgpe] at N5 hgp
      have hgpg : Hid (gp ≠ g ∧ w.heap.size ≤ gp) := Lib.hid (by rw [hgpe]; have := HR.out.rg.lt; have := HB0.out.size; have := b2.size; exact ⟨by omega, by omega⟩)
      clear kg k4 N2 N3 g3 e3 B3 b2 d1 c1 c2 c5 c6 hsl0 hgpe KP KG HB0 HO c5x B3w
      rcases H1.out _ _ hRr with hr | hr
      · subst hr
        have hnxe := HNX.out
        have heq : ((kn : Int) != (B.nx : Int)) = false := by simp; omega
        have hbo := HBN.out
        have hkn := HKN.out
        subst hkn
        rw [hbo] at e1 h6
        rw [show there 24 (b : Int) (kn : Int) = true from decide_eq_true (by have := H18.out; omega)] at h6
        have hb18i : (b : Int) < 18 := by have := H18.out; omega
        have hk8i : (kn : Int) < 8 := by have := H18.out; omega
        have hBs5 : b < Bs.length := by rw [HL.out]; exact H18.out.1
        have hBB : Bs[b]'hBs5 = B := (List.getElem?_eq_some_iff.1 HB.out).2
        have hBok : B.ok := by rw [← hBB]; exact R5.rg.at_ hBs5
        have RDr : RG w5.drew g Bs := ⟨R5.rg.blk, R5.rg.oks⟩
        have htc : w5.drew.cell? ⟨g, b * 2074 + 2073, none⟩ = some (.bool false) := by
          rw [RDr.cell hBs5 (by omega), hBB, RB.row_torn hBok, HTN.out]
        have hnc : w5.drew.cell? ⟨g, b * 2074 + 2072, none⟩ = some (.int .i64 (B.nx : Int)) := by
          rw [RDr.cell hBs5 (by omega), hBB, RB.row_nx hBok]
        have S0 : w5.drew.cell? ⟨m, 0, none⟩ = some (.slice (some ⟨g, 0, none⟩) 18 18) ∧ w5.drew.cell? ⟨w.heap.size, 1, none⟩ = some (.int .i64 (b : Int)) := ⟨hsl5, e1⟩
        go_wp2_with ((with_reducible refine h6.mono ?_); rintro e w' ⟨rfl, rfl⟩)
        refine wp_region_held_drew (S := fun w' => w'.cell? ⟨m, 0, none⟩ = some (.slice (some ⟨g, 0, none⟩) 18 18) ∧ w'.cell? ⟨w.heap.size, 1, none⟩ = some (.int .i64 (b : Int))) (by kernel_rfl) S0 (fun _ => ?_)
        refine wpAnyH_take (i := 0) (v := .pointer (some ⟨m, 0, none⟩)) rfl (by kernel_rfl) (by kernel_rfl) (by kernel_rfl) (fun _ _ _ h => h) (Or.inl ⟨by kernel_rfl, fun w _ => by go_simp⟩) S0 ?_
        refine wpAnyH_take (i := 1) (v := .pointer (some ⟨m, 0, none⟩)) rfl (by kernel_rfl) (by kernel_rfl) (by kernel_rfl) (fun _ _ _ h => h) (Or.inl ⟨by kernel_rfl, fun w _ => by go_simp⟩) S0 ?_
        refine wpAnyH_take (i := 2) (v := .pointer (some ⟨m, 0, none⟩)) rfl (by kernel_rfl) (by kernel_rfl) (by kernel_rfl) (fun _ _ _ h => h) (Or.inl ⟨by kernel_rfl, fun w _ => by go_simp⟩) S0 ?_
        refine wpAnyH_take (i := 3) (v := .slice (some ⟨g, 0, none⟩) 18 18) rfl (by kernel_rfl) (by kernel_rfl) (by kernel_rfl) (fun _ _ _ h => h) (yields_one (ty := 59) (fun w => by kernel_rfl) (.tmp 64) (by kernel_rfl) (by kernel_rfl) (by kernel_rfl) (fun _ h => h.1)) S0 ?_
        refine wpAnyH_take (i := 4) (v := .pointer (some ⟨w.heap.size, 1, none⟩)) rfl (by kernel_rfl) (by kernel_rfl) (by kernel_rfl) (fun _ _ _ h => h) (Or.inl ⟨by kernel_rfl, fun w _ => by go_simp⟩) S0 ?_
        refine wpAnyH_take (i := 5) (v := .int .i64 (b : Int)) rfl (by kernel_rfl) (by kernel_rfl) (by kernel_rfl) (fun _ _ _ h => h) (yields_one (ty := 3) (fun w => by kernel_rfl) (.tmp 66) (by kernel_rfl) (by kernel_rfl) (by kernel_rfl) (fun _ h => h.2)) S0 ?_
        refine wpAnyH_take (i := 6) (v := .pointer (some ⟨g, b * 2074, none⟩)) rfl (by kernel_rfl) (by kernel_rfl) (by kernel_rfl) (fun _ _ _ h => h) (Or.inl ⟨by kernel_rfl, fun w _ => by go_simp⟩) S0 ?_
        refine wpAnyH_take (i := 7) (v := .pointer (some ⟨g, b * 2074, none⟩)) rfl (by kernel_rfl) (by kernel_rfl) (by kernel_rfl) (fun _ _ _ h => h) (Or.inl ⟨by kernel_rfl, fun w _ => by go_simp⟩) S0 ?_
        refine wpAnyH_done (by kernel_rfl) ?_ _
        clear S0 htc hnc
        have hnc : w5.drew.cell? ⟨g, b * 2074 + 2072, none⟩ = some (.int .i64 (kn : Int)) := by
          rw [RDr.cell hBs5 (by omega), hBB, RB.row_nx hBok, hnxe]
        have htc : w5.drew.cell? ⟨g, b * 2074 + 2073, none⟩ = some (.bool false) := by
          rw [RDr.cell hBs5 (by omega), hBB, RB.row_torn hBok, HTN.out]
        have hok1 := RB.setNx_ok hBok (kn + 1)
        have hs1 := RDr.setCell hBs5 (i := 2072) (by omega) (.int .i64 ((kn : Int) + 1)) (B' := B.setNx (kn + 1)) (by rw [hBB, show ((kn : Int) + 1) = ((kn + 1 : Nat) : Int) by omega]; exact RB.set_nx hBok (kn + 1))
        have HS1 := Lib.hid hs1
        have HLN := Lib.hid RDr.len
        have hmul : (b + 1) * 2074 ≤ Bs.length * 2074 := Nat.mul_le_mul_right _ hBs5
        have hmul2 : (b + 1) * 2074 = b * 2074 + 2074 := Nat.succ_mul b 2074
        have HM := Lib.hid (And.intro hmul hmul2)
        have HGB := Lib.hid RDr.blk
        have N5d : PArr w5.drew gp p := N5
        clear hs1 hmul hmul2
        go_wp2_with ((with_reducible refine wpl_blk_int .i64 ((kn : Int) + 1) int_one (.tmp 114) (.tmp 112) rfl rfl HGB.out (b * 2074 + 2072) (by rw [HLN.out]; have := HM.out; omega) rfl rfl _ HS1.out ?_); intro w6 N6 g6 e6)
        have R5d : RD w5.drew m g Bs := ⟨R5.hd, RDr, R5.ne⟩
        have R6 : RD w6 m g (Bs.set b (B.setNx (kn + 1))) := R5d.set hok1 N6 g6
        have M6 : PArr w6 gp p := N5d.grown g6 (fun q => hgpg.out.1 q)
        have hl6 : b < (Bs.set b (B.setNx (kn + 1))).length := by rw [List.length_set]; exact hBs5
        have hb6 : (Bs.set b (B.setNx (kn + 1)))[b]'hl6 = B.setNx (kn + 1) := List.getElem_set_self hl6
        have R6d : RG w6.drew g (Bs.set b (B.setNx (kn + 1))) := ⟨R6.rg.blk, R6.rg.oks⟩
        have hok2 := RB.setPage_ok hok1 kn HPL.out
        have hbl : (bv p).length = 258 := by rw [bv_length]; exact HPL.out
        have hs2 := R6d.segSet hl6 (o := kn * 258) (vs := bv p) (B' := (B.setNx (kn + 1)).setPage kn p) (by rw [hb6]; exact RB.set_page hok1 H18.out.2 HPL.out) (by rw [hbl]; have := H18.out; omega) hok2
        obtain ⟨w7, hst7, N7, g7, e7⟩ := seg_cells_at (P := Tryz.prog) (w := w6.drew) (i := b * 2074 + kn * 258) (vs := bv p) R6d.blk (by rw [hbl, R6d.len, List.length_set]; have := HM.out; have := H18.out; omega) HONE.out
        rw [hs2, List.set_set] at N7
        have R7 : RD w7 m g (Bs.set b ((B.setNx (kn + 1)).setPage kn p)) := by
          have := (show RD w6.drew m g (Bs.set b (B.setNx (kn + 1))) from ⟨R6.hd, R6d, R6.ne⟩).set (b := b) hok2 (by rw [List.set_set]; exact N7) g7
          rw [List.set_set] at this
          exact this
        have hl7 : b < (Bs.set b ((B.setNx (kn + 1)).setPage kn p)).length := by rw [List.length_set]; exact hBs5
        have hb7 : (Bs.set b ((B.setNx (kn + 1)).setPage kn p))[b]'hl7 = (B.setNx (kn + 1)).setPage kn p := List.getElem_set_self hl7
        have hc7 : w7.cell? ⟨g, b * 2074 + 2064 + kn, none⟩ = some (.bool (((B.setNx (kn + 1)).setPage kn p).sure.getD kn false)) := by
          rw [Nat.add_assoc, R7.rg.cell hl7 (by have := H18.out; omega), hb7, RB.row_sure hok2 H18.out.2]
        have hf7 : w7.frozen? ⟨g, b * 2074 + 2064 + kn, none⟩ = false := R7.rg.blk.free _
        have N8 := R7.rg.blk.set (b * 2074 + 2064 + kn) (.bool true)
        rw [Nat.add_assoc, R7.rg.setCell hl7 (i := 2064 + kn) (by have := H18.out; omega) (.bool true) (B' := stepB B kn p true) (by rw [hb7]; exact RB.set_sure hok2 H18.out.2 true), List.set_set] at N8
        have g8 : w7.grownBy (w7.setCell ⟨g, b * 2074 + (2064 + kn), none⟩ (.bool true)) (some g) := ⟨rfl, rfl, rfl, by simp, fun k _ hk => heap_setCell_other w7 _ k _ (by simpa using hk)⟩
        have R8 : RD (w7.setCell ⟨g, b * 2074 + (2064 + kn), none⟩ (.bool true)) m g (Bs.set b (stepB B kn p true)) := by
          have := R7.set (b := b) (B' := stepB B kn p true) (stepB_ok hBok kn HPL.out true) (by rw [List.set_set]; exact N8) g8
          rw [List.set_set] at this
          exact this
        rw [← Nat.add_assoc] at R8 g8
        have S0 : PArr w6.drew gp p := M6
        have M7 : PArr w7 gp p := (show PArr w6.drew gp p from M6).grown g7 (fun q => hgpg.out.1 q)
        have M8 : PArr (w7.setCell ⟨g, b * 2074 + 2064 + kn, none⟩ (.bool true)) gp p := M7.grown g8 (fun q => hgpg.out.1 q)
        have C8 : Chg w5 (w7.setCell ⟨g, b * 2074 + 2064 + kn, none⟩ (.bool true)) (fun j => j = g) := (((Chg.of_below ((Below.refl _ _).drew)).trans (Chg.of_grown g6 (fun k e => Option.some.inj e))).trans ((Chg.of_below ((Below.refl _ _).drew)).trans (Chg.of_grown g7 (fun k e => Option.some.inj e)))).trans (Chg.of_grown g8 (fun k e => Option.some.inj e))
        clear hnc htc N6 N7 N8 R6 R7 R6d g6 g7 g8 e6 e7 hs2 hl6 hb6 hl7 hb7 hok1 hok2 hsl5
        refine wp_region_held_drew (S := fun w' => PArr w' gp p) (by kernel_rfl) S0 (fun _ => ?_)
        refine wpAnyH_take (i := 0) (v := .pointer (some ⟨g, b * 2074, none⟩)) rfl (by kernel_rfl) (by kernel_rfl) (by kernel_rfl) (fun _ _ _ h => h) (Or.inl ⟨by kernel_rfl, fun w _ => by go_simp⟩) S0 ?_
        refine wpAnyH_take (i := 1) (v := .int .i64 (kn : Int)) rfl (by kernel_rfl) (by kernel_rfl) (by kernel_rfl) (fun _ _ _ h => h) (Or.inl ⟨by kernel_rfl, fun w _ => by go_simp⟩) S0 ?_
        refine wpAnyH_take (i := 2) (v := .pointer (some ⟨g, b * 2074, none⟩)) rfl (by kernel_rfl) (by kernel_rfl) (by kernel_rfl) (fun _ _ _ h => h) (Or.inl ⟨by kernel_rfl, fun w _ => by go_simp⟩) S0 ?_
        refine wpAnyH_take (i := 3) (v := .int .i64 (kn : Int)) rfl (by kernel_rfl) (by kernel_rfl) (by kernel_rfl) (fun _ _ _ h => h) (Or.inl ⟨by kernel_rfl, fun w _ => by go_simp⟩) S0 ?_
        refine wpAnyH_take (i := 4) (v := .agg (bv p).toArray) rfl (by kernel_rfl) (by kernel_rfl) (by kernel_rfl) (fun _ _ _ h => h) (yields_ploadb (g := gp) (.tmp 11) (by kernel_rfl) (by kernel_rfl) (by kernel_rfl) (fun _ h => h)) S0 ?_
        refine wpAnyH_take (i := 5) (v := .int .i64 0) rfl (by kernel_rfl) (by kernel_rfl) (by kernel_rfl) (fun _ _ _ h => h) (Or.inl ⟨by kernel_rfl, fun w _ => by go_simp⟩) S0 ?_
        refine wpAnyH_take (i := 6) (v := .bool true) rfl (by kernel_rfl) (by kernel_rfl) (by kernel_rfl) (fun _ _ _ h => h) (Or.inl ⟨by kernel_rfl, fun w _ => by go_simp⟩) S0 ?_
        refine wpAnyH_take (i := 7) (v := .pointer (some ⟨g, b * 2074, none⟩)) rfl (by kernel_rfl) (by kernel_rfl) (by kernel_rfl) (fun _ _ _ h => h) (Or.inl ⟨by kernel_rfl, fun w _ => by go_simp⟩) S0 ?_
        refine wpAnyH_take (i := 8) (v := .pointer (some ⟨g, b * 2074, none⟩)) rfl (by kernel_rfl) (by kernel_rfl) (by kernel_rfl) (fun _ _ _ h => h) (Or.inl ⟨by kernel_rfl, fun w _ => by go_simp⟩) S0 ?_
        refine wpAnyH_take (i := 9) (v := .pointer (some ⟨g, b * 2074 + kn * 258, none⟩)) rfl (by kernel_rfl) (by kernel_rfl) (by kernel_rfl) (fun _ _ _ h => h) (Or.inl ⟨by kernel_rfl, fun w _ => by go_simp⟩) S0 ?_
        refine wpAnyH_take (i := 11) (v := .pointer (some ⟨g, b * 2074, none⟩)) rfl (by kernel_rfl) (by kernel_rfl) (by kernel_rfl) (fun _ _ _ h => h) (Or.inl ⟨by kernel_rfl, fun w _ => by go_simp⟩) S0 ?_
        refine wpAnyH_take (i := 12) (v := .pointer (some ⟨g, b * 2074 + 2064, none⟩)) rfl (by kernel_rfl) (by kernel_rfl) (by kernel_rfl) (fun _ _ _ h => h) (Or.inl ⟨by kernel_rfl, fun w _ => by go_simp⟩) S0 ?_
        refine wpAnyH_ready (rs := [10]) (by kernel_rfl) (by simp) (AllReadyH.cons rfl (fun K hK => ?_) AllReadyH.nil)
        go_simp
        refine hK.out _ _ M7 (fun _ => ?_)
        clear hK K
        refine wpAnyH_take (i := 13) (v := .pointer (some ⟨g, b * 2074 + 2064 + kn, none⟩)) rfl (by kernel_rfl) (by kernel_rfl) (by kernel_rfl) (fun _ _ _ h => h) (Or.inl ⟨by kernel_rfl, fun w _ => by go_simp⟩) M7 ?_
        refine wpAnyH_ready (rs := [14]) (by kernel_rfl) (by simp) (AllReadyH.cons rfl (fun K hK => ?_) AllReadyH.nil)
        go_simp
        refine hK.out _ _ M8 (fun _ => ?_)
        clear hK K
        refine wpAnyH_done (by kernel_rfl) ?_ _
        clear S0 M7 M8 M6
        go_wp2_with fail
        go_ret2
        exact ⟨0, rfl, HST.out _ _ _ hRr C8, by rw [← HPD.out]; exact R8, (C5.more (fun k _ q => .inl q)).trans (C8.more (fun k _ q => .inr q))⟩
      · subst hr
        have hnxe := HNX.out
        have heq : ((kn : Int) != (B.nx : Int)) = false := by simp; omega
        have hbo := HBN.out
        have hkn := HKN.out
        subst hkn
        rw [hbo] at e1 h6
        rw [show there 24 (b : Int) (kn : Int) = true from decide_eq_true (by have := H18.out; omega)] at h6
        have hb18i : (b : Int) < 18 := by have := H18.out; omega
        have hk8i : (kn : Int) < 8 := by have := H18.out; omega
        have hBs5 : b < Bs.length := by rw [HL.out]; exact H18.out.1
        have hBB : Bs[b]'hBs5 = B := (List.getElem?_eq_some_iff.1 HB.out).2
        have hBok : B.ok := by rw [← hBB]; exact R5.rg.at_ hBs5
        have RDr : RG w5.drew g Bs := ⟨R5.rg.blk, R5.rg.oks⟩
        have htc : w5.drew.cell? ⟨g, b * 2074 + 2073, none⟩ = some (.bool false) := by
          rw [RDr.cell hBs5 (by omega), hBB, RB.row_torn hBok, HTN.out]
        have hnc : w5.drew.cell? ⟨g, b * 2074 + 2072, none⟩ = some (.int .i64 (B.nx : Int)) := by
          rw [RDr.cell hBs5 (by omega), hBB, RB.row_nx hBok]
        have S0 : w5.drew.cell? ⟨m, 0, none⟩ = some (.slice (some ⟨g, 0, none⟩) 18 18) ∧ w5.drew.cell? ⟨w.heap.size, 1, none⟩ = some (.int .i64 (b : Int)) := ⟨hsl5, e1⟩
        go_wp2_with ((with_reducible refine h6.mono ?_); rintro e w' ⟨rfl, rfl⟩)
        refine wp_region_held_drew (S := fun w' => w'.cell? ⟨m, 0, none⟩ = some (.slice (some ⟨g, 0, none⟩) 18 18) ∧ w'.cell? ⟨w.heap.size, 1, none⟩ = some (.int .i64 (b : Int))) (by kernel_rfl) S0 (fun _ => ?_)
        refine wpAnyH_take (i := 0) (v := .pointer (some ⟨m, 0, none⟩)) rfl (by kernel_rfl) (by kernel_rfl) (by kernel_rfl) (fun _ _ _ h => h) (Or.inl ⟨by kernel_rfl, fun w _ => by go_simp⟩) S0 ?_
        refine wpAnyH_take (i := 1) (v := .pointer (some ⟨m, 0, none⟩)) rfl (by kernel_rfl) (by kernel_rfl) (by kernel_rfl) (fun _ _ _ h => h) (Or.inl ⟨by kernel_rfl, fun w _ => by go_simp⟩) S0 ?_
        refine wpAnyH_take (i := 2) (v := .pointer (some ⟨m, 0, none⟩)) rfl (by kernel_rfl) (by kernel_rfl) (by kernel_rfl) (fun _ _ _ h => h) (Or.inl ⟨by kernel_rfl, fun w _ => by go_simp⟩) S0 ?_
        refine wpAnyH_take (i := 3) (v := .slice (some ⟨g, 0, none⟩) 18 18) rfl (by kernel_rfl) (by kernel_rfl) (by kernel_rfl) (fun _ _ _ h => h) (yields_one (ty := 59) (fun w => by kernel_rfl) (.tmp 64) (by kernel_rfl) (by kernel_rfl) (by kernel_rfl) (fun _ h => h.1)) S0 ?_
        refine wpAnyH_take (i := 4) (v := .pointer (some ⟨w.heap.size, 1, none⟩)) rfl (by kernel_rfl) (by kernel_rfl) (by kernel_rfl) (fun _ _ _ h => h) (Or.inl ⟨by kernel_rfl, fun w _ => by go_simp⟩) S0 ?_
        refine wpAnyH_take (i := 5) (v := .int .i64 (b : Int)) rfl (by kernel_rfl) (by kernel_rfl) (by kernel_rfl) (fun _ _ _ h => h) (yields_one (ty := 3) (fun w => by kernel_rfl) (.tmp 66) (by kernel_rfl) (by kernel_rfl) (by kernel_rfl) (fun _ h => h.2)) S0 ?_
        refine wpAnyH_take (i := 6) (v := .pointer (some ⟨g, b * 2074, none⟩)) rfl (by kernel_rfl) (by kernel_rfl) (by kernel_rfl) (fun _ _ _ h => h) (Or.inl ⟨by kernel_rfl, fun w _ => by go_simp⟩) S0 ?_
        refine wpAnyH_take (i := 7) (v := .pointer (some ⟨g, b * 2074, none⟩)) rfl (by kernel_rfl) (by kernel_rfl) (by kernel_rfl) (fun _ _ _ h => h) (Or.inl ⟨by kernel_rfl, fun w _ => by go_simp⟩) S0 ?_
        refine wpAnyH_done (by kernel_rfl) ?_ _
        clear S0 htc hnc
        have hnc : w5.drew.cell? ⟨g, b * 2074 + 2072, none⟩ = some (.int .i64 (kn : Int)) := by
          rw [RDr.cell hBs5 (by omega), hBB, RB.row_nx hBok, hnxe]
        have htc : w5.drew.cell? ⟨g, b * 2074 + 2073, none⟩ = some (.bool false) := by
          rw [RDr.cell hBs5 (by omega), hBB, RB.row_torn hBok, HTN.out]
        have hok1 := RB.setNx_ok hBok (kn + 1)
        have hs1 := RDr.setCell hBs5 (i := 2072) (by omega) (.int .i64 ((kn : Int) + 1)) (B' := B.setNx (kn + 1)) (by rw [hBB, show ((kn : Int) + 1) = ((kn + 1 : Nat) : Int) by omega]; exact RB.set_nx hBok (kn + 1))
        have HS1 := Lib.hid hs1
        have HLN := Lib.hid RDr.len
        have hmul : (b + 1) * 2074 ≤ Bs.length * 2074 := Nat.mul_le_mul_right _ hBs5
        have hmul2 : (b + 1) * 2074 = b * 2074 + 2074 := Nat.succ_mul b 2074
        have HM := Lib.hid (And.intro hmul hmul2)
        have HGB := Lib.hid RDr.blk
        have N5d : PArr w5.drew gp p := N5
        clear hs1 hmul hmul2
        go_wp2_with ((with_reducible refine wpl_blk_int .i64 ((kn : Int) + 1) int_one (.tmp 114) (.tmp 112) rfl rfl HGB.out (b * 2074 + 2072) (by rw [HLN.out]; have := HM.out; omega) rfl rfl _ HS1.out ?_); intro w6 N6 g6 e6)
        have R5d : RD w5.drew m g Bs := ⟨R5.hd, RDr, R5.ne⟩
        have R6 : RD w6 m g (Bs.set b (B.setNx (kn + 1))) := R5d.set hok1 N6 g6
        have M6 : PArr w6 gp p := N5d.grown g6 (fun q => hgpg.out.1 q)
        have hl6 : b < (Bs.set b (B.setNx (kn + 1))).length := by rw [List.length_set]; exact hBs5
        have hb6 : (Bs.set b (B.setNx (kn + 1)))[b]'hl6 = B.setNx (kn + 1) := List.getElem_set_self hl6
        have R6d : RG w6.drew g (Bs.set b (B.setNx (kn + 1))) := ⟨R6.rg.blk, R6.rg.oks⟩
        have hok2 := RB.setPage_ok hok1 kn HPL.out
        have hbl : (bv p).length = 258 := by rw [bv_length]; exact HPL.out
        have hs2 := R6d.segSet hl6 (o := kn * 258) (vs := bv p) (B' := (B.setNx (kn + 1)).setPage kn p) (by rw [hb6]; exact RB.set_page hok1 H18.out.2 HPL.out) (by rw [hbl]; have := H18.out; omega) hok2
        obtain ⟨w7, hst7, N7, g7, e7⟩ := seg_cells_at (P := Tryz.prog) (w := w6.drew) (i := b * 2074 + kn * 258) (vs := bv p) R6d.blk (by rw [hbl, R6d.len, List.length_set]; have := HM.out; have := H18.out; omega) HONE.out
        rw [hs2, List.set_set] at N7
        have R7 : RD w7 m g (Bs.set b ((B.setNx (kn + 1)).setPage kn p)) := by
          have := (show RD w6.drew m g (Bs.set b (B.setNx (kn + 1))) from ⟨R6.hd, R6d, R6.ne⟩).set (b := b) hok2 (by rw [List.set_set]; exact N7) g7
          rw [List.set_set] at this
          exact this
        have hl7 : b < (Bs.set b ((B.setNx (kn + 1)).setPage kn p)).length := by rw [List.length_set]; exact hBs5
        have hb7 : (Bs.set b ((B.setNx (kn + 1)).setPage kn p))[b]'hl7 = (B.setNx (kn + 1)).setPage kn p := List.getElem_set_self hl7
        have hc7 : w7.cell? ⟨g, b * 2074 + 2064 + kn, none⟩ = some (.bool (((B.setNx (kn + 1)).setPage kn p).sure.getD kn false)) := by
          rw [Nat.add_assoc, R7.rg.cell hl7 (by have := H18.out; omega), hb7, RB.row_sure hok2 H18.out.2]
        have hf7 : w7.frozen? ⟨g, b * 2074 + 2064 + kn, none⟩ = false := R7.rg.blk.free _
        have N8 := R7.rg.blk.set (b * 2074 + 2064 + kn) (.bool false)
        rw [Nat.add_assoc, R7.rg.setCell hl7 (i := 2064 + kn) (by have := H18.out; omega) (.bool false) (B' := stepB B kn p false) (by rw [hb7]; exact RB.set_sure hok2 H18.out.2 false), List.set_set] at N8
        have g8 : w7.grownBy (w7.setCell ⟨g, b * 2074 + (2064 + kn), none⟩ (.bool false)) (some g) := ⟨rfl, rfl, rfl, by simp, fun k _ hk => heap_setCell_other w7 _ k _ (by simpa using hk)⟩
        have R8 : RD (w7.setCell ⟨g, b * 2074 + (2064 + kn), none⟩ (.bool false)) m g (Bs.set b (stepB B kn p false)) := by
          have := R7.set (b := b) (B' := stepB B kn p false) (stepB_ok hBok kn HPL.out false) (by rw [List.set_set]; exact N8) g8
          rw [List.set_set] at this
          exact this
        rw [← Nat.add_assoc] at R8 g8
        have S0 : PArr w6.drew gp p := M6
        have M7 : PArr w7 gp p := (show PArr w6.drew gp p from M6).grown g7 (fun q => hgpg.out.1 q)
        have M8 : PArr (w7.setCell ⟨g, b * 2074 + 2064 + kn, none⟩ (.bool false)) gp p := M7.grown g8 (fun q => hgpg.out.1 q)
        have C8 : Chg w5 (w7.setCell ⟨g, b * 2074 + 2064 + kn, none⟩ (.bool false)) (fun j => j = g) := (((Chg.of_below ((Below.refl _ _).drew)).trans (Chg.of_grown g6 (fun k e => Option.some.inj e))).trans ((Chg.of_below ((Below.refl _ _).drew)).trans (Chg.of_grown g7 (fun k e => Option.some.inj e)))).trans (Chg.of_grown g8 (fun k e => Option.some.inj e))
        clear hnc htc N6 N7 N8 R6 R7 R6d g6 g7 g8 e6 e7 hs2 hl6 hb6 hl7 hb7 hok1 hok2 hsl5
        refine wp_region_held_drew (S := fun w' => PArr w' gp p) (by kernel_rfl) S0 (fun _ => ?_)
        refine wpAnyH_take (i := 0) (v := .pointer (some ⟨g, b * 2074, none⟩)) rfl (by kernel_rfl) (by kernel_rfl) (by kernel_rfl) (fun _ _ _ h => h) (Or.inl ⟨by kernel_rfl, fun w _ => by go_simp⟩) S0 ?_
        refine wpAnyH_take (i := 1) (v := .int .i64 (kn : Int)) rfl (by kernel_rfl) (by kernel_rfl) (by kernel_rfl) (fun _ _ _ h => h) (Or.inl ⟨by kernel_rfl, fun w _ => by go_simp⟩) S0 ?_
        refine wpAnyH_take (i := 2) (v := .pointer (some ⟨g, b * 2074, none⟩)) rfl (by kernel_rfl) (by kernel_rfl) (by kernel_rfl) (fun _ _ _ h => h) (Or.inl ⟨by kernel_rfl, fun w _ => by go_simp⟩) S0 ?_
        refine wpAnyH_take (i := 3) (v := .int .i64 (kn : Int)) rfl (by kernel_rfl) (by kernel_rfl) (by kernel_rfl) (fun _ _ _ h => h) (Or.inl ⟨by kernel_rfl, fun w _ => by go_simp⟩) S0 ?_
        refine wpAnyH_take (i := 4) (v := .agg (bv p).toArray) rfl (by kernel_rfl) (by kernel_rfl) (by kernel_rfl) (fun _ _ _ h => h) (yields_ploadb (g := gp) (.tmp 11) (by kernel_rfl) (by kernel_rfl) (by kernel_rfl) (fun _ h => h)) S0 ?_
        refine wpAnyH_take (i := 5) (v := .int .i64 30) rfl (by kernel_rfl) (by kernel_rfl) (by kernel_rfl) (fun _ _ _ h => h) (Or.inl ⟨by kernel_rfl, fun w _ => by go_simp⟩) S0 ?_
        refine wpAnyH_take (i := 6) (v := .bool false) rfl (by kernel_rfl) (by kernel_rfl) (by kernel_rfl) (fun _ _ _ h => h) (Or.inl ⟨by kernel_rfl, fun w _ => by go_simp⟩) S0 ?_
        refine wpAnyH_take (i := 7) (v := .pointer (some ⟨g, b * 2074, none⟩)) rfl (by kernel_rfl) (by kernel_rfl) (by kernel_rfl) (fun _ _ _ h => h) (Or.inl ⟨by kernel_rfl, fun w _ => by go_simp⟩) S0 ?_
        refine wpAnyH_take (i := 8) (v := .pointer (some ⟨g, b * 2074, none⟩)) rfl (by kernel_rfl) (by kernel_rfl) (by kernel_rfl) (fun _ _ _ h => h) (Or.inl ⟨by kernel_rfl, fun w _ => by go_simp⟩) S0 ?_
        refine wpAnyH_take (i := 9) (v := .pointer (some ⟨g, b * 2074 + kn * 258, none⟩)) rfl (by kernel_rfl) (by kernel_rfl) (by kernel_rfl) (fun _ _ _ h => h) (Or.inl ⟨by kernel_rfl, fun w _ => by go_simp⟩) S0 ?_
        refine wpAnyH_take (i := 11) (v := .pointer (some ⟨g, b * 2074, none⟩)) rfl (by kernel_rfl) (by kernel_rfl) (by kernel_rfl) (fun _ _ _ h => h) (Or.inl ⟨by kernel_rfl, fun w _ => by go_simp⟩) S0 ?_
        refine wpAnyH_take (i := 12) (v := .pointer (some ⟨g, b * 2074 + 2064, none⟩)) rfl (by kernel_rfl) (by kernel_rfl) (by kernel_rfl) (fun _ _ _ h => h) (Or.inl ⟨by kernel_rfl, fun w _ => by go_simp⟩) S0 ?_
        refine wpAnyH_ready (rs := [10]) (by kernel_rfl) (by simp) (AllReadyH.cons rfl (fun K hK => ?_) AllReadyH.nil)
        go_simp
        refine hK.out _ _ M7 (fun _ => ?_)
        clear hK K
        refine wpAnyH_take (i := 13) (v := .pointer (some ⟨g, b * 2074 + 2064 + kn, none⟩)) rfl (by kernel_rfl) (by kernel_rfl) (by kernel_rfl) (fun _ _ _ h => h) (Or.inl ⟨by kernel_rfl, fun w _ => by go_simp⟩) M7 ?_
        refine wpAnyH_ready (rs := [14]) (by kernel_rfl) (by simp) (AllReadyH.cons rfl (fun K hK => ?_) AllReadyH.nil)
        go_simp
        refine hK.out _ _ M8 (fun _ => ?_)
        clear hK K
        refine wpAnyH_done (by kernel_rfl) ?_ _
        clear S0 M7 M8 M6
        go_wp2_with fail
        go_ret2
        exact ⟨30, rfl, HST.out _ _ _ hRr C8, by rw [← HPD.out]; exact R8, (C5.more (fun k _ q => .inl q)).trans (C8.more (fun k _ q => .inr q))⟩
    | true =>
      have hth := of_decide_eq_true HQ0.out.symm
      obtain ⟨bn, hbn⟩ : ∃ bn : Nat, o.b = bn := ⟨o.b.toNat, by omega⟩
      have hb18 : bn < 18 := by omega
      have hb18i : (bn : Int) < 18 := by omega
      have hnx : ((Bs[bn]'(by rw [HL.out]; exact hb18)).nx : Int) = k := by
        have := HKK.out
        rw [hbn, Int.toNat_natCast, List.getD_eq_getElem?_getD, List.getElem?_eq_getElem (by rw [HL.out]; exact hb18)] at this
        simpa using this.symm
      have hcx : (w.alloc (.cells o.row.toArray 35)).cell? ⟨g, bn * 2074 + 2072, none⟩ = some (.int .i64 k) := by
        rw [(HR.out.after HB0.out).rg.cell (by rw [HL.out]; exact hb18) (by omega), RB.row_nx (HR.out.rg.at_ _), hnx]
      have c1' := c1
      rw [hbn] at c1'
      have HBN := Lib.hid hbn
      clear HKK hth hnx
      rw [hbn] at h0
      go_enter Tryz.func9, Tryz.ntmps9
      clear c1
      go_wp2_with ((with_reducible refine h0.mono ?_); rintro e w' ⟨rfl, rfl⟩)
      have S0 : (w.alloc (.cells o.row.toArray 35)).drew.cell? ⟨m, 0, none⟩ = some (.slice (some ⟨g, 0, none⟩) 18 18) ∧ (w.alloc (.cells o.row.toArray 35)).drew.cell? ⟨w.heap.size, 1, none⟩ = some (.int .i64 (bn : Int)) ∧ (w.alloc (.cells o.row.toArray 35)).drew.cell? ⟨g, bn * 2074 + 2072, none⟩ = some (.int .i64 k) := ⟨hsl0, c1', hcx⟩
      refine wp_region_held_drew (S := fun w' => w'.cell? ⟨m, 0, none⟩ = some (.slice (some ⟨g, 0, none⟩) 18 18) ∧ w'.cell? ⟨w.heap.size, 1, none⟩ = some (.int .i64 (bn : Int)) ∧ w'.cell? ⟨g, bn * 2074 + 2072, none⟩ = some (.int .i64 k)) (by kernel_rfl) S0 (fun _ => ?_)
      refine wpAnyH_take (i := 0) (v := .pointer (some ⟨m, 0, none⟩)) rfl (by kernel_rfl) (by kernel_rfl) (by kernel_rfl) (fun _ _ _ h => h) (Or.inl ⟨by kernel_rfl, fun w _ => by go_simp⟩) S0 ?_
      refine wpAnyH_take (i := 1) (v := .pointer (some ⟨m, 0, none⟩)) rfl (by kernel_rfl) (by kernel_rfl) (by kernel_rfl) (fun _ _ _ h => h) (Or.inl ⟨by kernel_rfl, fun w _ => by go_simp⟩) S0 ?_
      refine wpAnyH_take (i := 2) (v := .pointer (some ⟨m, 0, none⟩)) rfl (by kernel_rfl) (by kernel_rfl) (by kernel_rfl) (fun _ _ _ h => h) (Or.inl ⟨by kernel_rfl, fun w _ => by go_simp⟩) S0 ?_
      refine wpAnyH_take (i := 3) (v := .slice (some ⟨g, 0, none⟩) 18 18) rfl (by kernel_rfl) (by kernel_rfl) (by kernel_rfl) (fun _ _ _ h => h) (yields_one (ty := 59) (fun w => by kernel_rfl) (.tmp 26) (by kernel_rfl) (by kernel_rfl) (by kernel_rfl) (fun _ h => h.1)) S0 ?_
      refine wpAnyH_take (i := 4) (v := .pointer (some ⟨w.heap.size, 1, none⟩)) rfl (by kernel_rfl) (by kernel_rfl) (by kernel_rfl) (fun _ _ _ h => h) (Or.inl ⟨by kernel_rfl, fun w _ => by go_simp⟩) S0 ?_
      refine wpAnyH_take (i := 5) (v := .int .i64 (bn : Int)) rfl (by kernel_rfl) (by kernel_rfl) (by kernel_rfl) (fun _ _ _ h => h) (yields_one (ty := 3) (fun w => by kernel_rfl) (.tmp 28) (by kernel_rfl) (by kernel_rfl) (by kernel_rfl) (fun _ h => h.2.1)) S0 ?_
      refine wpAnyH_take (i := 6) (v := .pointer (some ⟨g, bn * 2074, none⟩)) rfl (by kernel_rfl) (by kernel_rfl) (by kernel_rfl) (fun _ _ _ h => h) (Or.inl ⟨by kernel_rfl, fun w _ => by go_simp⟩) S0 ?_
      refine wpAnyH_take (i := 7) (v := .pointer (some ⟨g, bn * 2074 + 2072, none⟩)) rfl (by kernel_rfl) (by kernel_rfl) (by kernel_rfl) (fun _ _ _ h => h) (Or.inl ⟨by kernel_rfl, fun w _ => by go_simp⟩) S0 ?_
      refine wpAnyH_take (i := 8) (v := .int .i64 k) rfl (by kernel_rfl) (by kernel_rfl) (by kernel_rfl) (fun _ _ _ h => h) (yields_one (ty := 3) (fun w => by kernel_rfl) (.tmp 31) (by kernel_rfl) (by kernel_rfl) (by kernel_rfl) (fun _ h => h.2.2)) S0 ?_
      refine wpAnyH_take (i := 9) (v := .int .i64 k) rfl (by kernel_rfl) (by kernel_rfl) (by kernel_rfl) (fun _ _ _ h => h) (Or.inl ⟨by kernel_rfl, fun w _ => by go_simp⟩) S0 ?_
      refine wpAnyH_done (by kernel_rfl) ?_ _
      go_wp2_with fail
      obtain ⟨W1, hW1⟩ : ∃ W1, W1 = (w.alloc (.cells o.row.toArray 35)).drew := ⟨_, rfl⟩
      have HB1 : Hid (Below w.heap.size w W1) := by rw [hW1]; exact Lib.hid HB0.out.drew
      have HO1 : Hid (Blk W1 w.heap.size 35 o.row) := by rw [hW1]; exact HO
      have c1 : W1.cell? ⟨w.heap.size, 1, none⟩ = some (.int .i64 o.b) := HO1.out.cell 1
      have c2' : W1.cell? ⟨w.heap.size, 2, none⟩ = some (.int .i64 o.p) := HO1.out.cell 2
      have c5' : W1.cell? ⟨w.heap.size, 5, none⟩ = some (.int .u8 ((y.toNat : Nat) : Int)) := by rw [hW1]; exact c5
      have c6' : W1.cell? ⟨w.heap.size, 6, none⟩ = some (.bool true) := by rw [hW1]; exact c6
      have hsl1 : W1.cell? ⟨m, 0, none⟩ = some (.slice (some ⟨g, 0, none⟩) 18 18) := by rw [hW1]; exact hsl0
      rw [← hW1]
      clear hW1 HB0 HO c2 c5 c6 hsl0 S0 h0 hcx c1'
      have HB0 := HB1
      have HO := HO1
      have c2 := c2'
      have c5 := c5'
      have c6 := c6'
      have hsl0 := hsl1
      clear HB1 HO1 c2' c5' c6' hsl1 HBN hbn hb18 hb18i
      have kg := KG.out W1 HB0.out
      go_wp2_with (first
        | ((with_reducible refine kg.mono ?_); rintro e w2 ⟨rfl, b2⟩; have N2 := PArr.new w2 pzeros_length)
        | ((with_reducible refine wpl_pstore (.tmp 11) (.tmp 36) rfl rfl N2 rfl HPL.out rfl ?_); intro w3 N3 g3 e3; have B3 := page_new b2 g3; have d1 : w3.cell? ⟨w.heap.size, 1, none⟩ = some (.int .i64 o.b) := (HO.out.after B3).cell 1; have k4 := KP.out _ (HB0.out.trans (B3.mono HB0.out.size)))
        | (with_reducible refine wpl_pload (.tmp 11) rfl rfl N3 rfl ?_))
      have hgp : Hid (¬ T w2.heap.size) := Lib.hid (fun q => by have := HT.out _ q; have := HB0.out.size; have := b2.size; omega)
      have hgo : Hid (¬ T w.heap.size) := Lib.hid (fun q => by have := HT.out _ q; omega)
      ((with_reducible refine k4.mono ?_); rintro e w5 ⟨r, rfl, hRr, R5, c5x⟩)
      have O5 := (HO.out.after B3).chg c5x hgo.out
      have N5 := N3.chg c5x hgp.out
      have B3w := HB0.out.trans (B3.mono HB0.out.size)
      have e1 : w5.cell? ⟨w.heap.size, 1, none⟩ = some (.int .i64 o.b) := O5.cell 1
      have C5 : Chg w w5 T := (Chg.of_below B3w).trans c5x
      have h6 := there_any R5 HL.out o.b k
      have hsl5 := R5.sl
      rw [HL.out] at hsl5
      obtain ⟨gp, hgpe⟩ : ∃ gp, gp = w2.heap.size := ⟨_, rfl⟩
      simp only [← hgpe]
      rw [← hgpe] at N5 hgp
      have hgpg : Hid (gp ≠ g ∧ w.heap.size ≤ gp) := Lib.hid (by rw [hgpe]; have := HR.out.rg.lt; have := HB0.out.size; have := b2.size; exact ⟨by omega, by omega⟩)
      clear kg k4 N2 N3 g3 e3 B3 b2 d1 c1 c2 c5 c6 hsl0 hgpe KP KG HB0 HO c5x B3w
      rcases H1.out _ _ hRr with hr | hr
      · subst hr
        have hnxe := HNX.out
        have heq : ((kn : Int) != (B.nx : Int)) = false := by simp; omega
        have hbo := HBN.out
        have hkn := HKN.out
        subst hkn
        rw [hbo] at e1 h6
        rw [show there 24 (b : Int) (kn : Int) = true from decide_eq_true (by have := H18.out; omega)] at h6
        have hb18i : (b : Int) < 18 := by have := H18.out; omega
        have hk8i : (kn : Int) < 8 := by have := H18.out; omega
        have hBs5 : b < Bs.length := by rw [HL.out]; exact H18.out.1
        have hBB : Bs[b]'hBs5 = B := (List.getElem?_eq_some_iff.1 HB.out).2
        have hBok : B.ok := by rw [← hBB]; exact R5.rg.at_ hBs5
        have RDr : RG w5.drew g Bs := ⟨R5.rg.blk, R5.rg.oks⟩
        have htc : w5.drew.cell? ⟨g, b * 2074 + 2073, none⟩ = some (.bool false) := by
          rw [RDr.cell hBs5 (by omega), hBB, RB.row_torn hBok, HTN.out]
        have hnc : w5.drew.cell? ⟨g, b * 2074 + 2072, none⟩ = some (.int .i64 (B.nx : Int)) := by
          rw [RDr.cell hBs5 (by omega), hBB, RB.row_nx hBok]
        have S0 : w5.drew.cell? ⟨m, 0, none⟩ = some (.slice (some ⟨g, 0, none⟩) 18 18) ∧ w5.drew.cell? ⟨w.heap.size, 1, none⟩ = some (.int .i64 (b : Int)) := ⟨hsl5, e1⟩
        go_wp2_with ((with_reducible refine h6.mono ?_); rintro e w' ⟨rfl, rfl⟩)
        refine wp_region_held_drew (S := fun w' => w'.cell? ⟨m, 0, none⟩ = some (.slice (some ⟨g, 0, none⟩) 18 18) ∧ w'.cell? ⟨w.heap.size, 1, none⟩ = some (.int .i64 (b : Int))) (by kernel_rfl) S0 (fun _ => ?_)
        refine wpAnyH_take (i := 0) (v := .pointer (some ⟨m, 0, none⟩)) rfl (by kernel_rfl) (by kernel_rfl) (by kernel_rfl) (fun _ _ _ h => h) (Or.inl ⟨by kernel_rfl, fun w _ => by go_simp⟩) S0 ?_
        refine wpAnyH_take (i := 1) (v := .pointer (some ⟨m, 0, none⟩)) rfl (by kernel_rfl) (by kernel_rfl) (by kernel_rfl) (fun _ _ _ h => h) (Or.inl ⟨by kernel_rfl, fun w _ => by go_simp⟩) S0 ?_
        refine wpAnyH_take (i := 2) (v := .pointer (some ⟨m, 0, none⟩)) rfl (by kernel_rfl) (by kernel_rfl) (by kernel_rfl) (fun _ _ _ h => h) (Or.inl ⟨by kernel_rfl, fun w _ => by go_simp⟩) S0 ?_
        refine wpAnyH_take (i := 3) (v := .slice (some ⟨g, 0, none⟩) 18 18) rfl (by kernel_rfl) (by kernel_rfl) (by kernel_rfl) (fun _ _ _ h => h) (yields_one (ty := 59) (fun w => by kernel_rfl) (.tmp 64) (by kernel_rfl) (by kernel_rfl) (by kernel_rfl) (fun _ h => h.1)) S0 ?_
        refine wpAnyH_take (i := 4) (v := .pointer (some ⟨w.heap.size, 1, none⟩)) rfl (by kernel_rfl) (by kernel_rfl) (by kernel_rfl) (fun _ _ _ h => h) (Or.inl ⟨by kernel_rfl, fun w _ => by go_simp⟩) S0 ?_
        refine wpAnyH_take (i := 5) (v := .int .i64 (b : Int)) rfl (by kernel_rfl) (by kernel_rfl) (by kernel_rfl) (fun _ _ _ h => h) (yields_one (ty := 3) (fun w => by kernel_rfl) (.tmp 66) (by kernel_rfl) (by kernel_rfl) (by kernel_rfl) (fun _ h => h.2)) S0 ?_
        refine wpAnyH_take (i := 6) (v := .pointer (some ⟨g, b * 2074, none⟩)) rfl (by kernel_rfl) (by kernel_rfl) (by kernel_rfl) (fun _ _ _ h => h) (Or.inl ⟨by kernel_rfl, fun w _ => by go_simp⟩) S0 ?_
        refine wpAnyH_take (i := 7) (v := .pointer (some ⟨g, b * 2074, none⟩)) rfl (by kernel_rfl) (by kernel_rfl) (by kernel_rfl) (fun _ _ _ h => h) (Or.inl ⟨by kernel_rfl, fun w _ => by go_simp⟩) S0 ?_
        refine wpAnyH_done (by kernel_rfl) ?_ _
        clear S0 htc hnc
        have hnc : w5.drew.cell? ⟨g, b * 2074 + 2072, none⟩ = some (.int .i64 (kn : Int)) := by
          rw [RDr.cell hBs5 (by omega), hBB, RB.row_nx hBok, hnxe]
        have htc : w5.drew.cell? ⟨g, b * 2074 + 2073, none⟩ = some (.bool false) := by
          rw [RDr.cell hBs5 (by omega), hBB, RB.row_torn hBok, HTN.out]
        have hok1 := RB.setNx_ok hBok (kn + 1)
        have hs1 := RDr.setCell hBs5 (i := 2072) (by omega) (.int .i64 ((kn : Int) + 1)) (B' := B.setNx (kn + 1)) (by rw [hBB, show ((kn : Int) + 1) = ((kn + 1 : Nat) : Int) by omega]; exact RB.set_nx hBok (kn + 1))
        have HS1 := Lib.hid hs1
        have HLN := Lib.hid RDr.len
        have hmul : (b + 1) * 2074 ≤ Bs.length * 2074 := Nat.mul_le_mul_right _ hBs5
        have hmul2 : (b + 1) * 2074 = b * 2074 + 2074 := Nat.succ_mul b 2074
        have HM := Lib.hid (And.intro hmul hmul2)
        have HGB := Lib.hid RDr.blk
        have N5d : PArr w5.drew gp p := N5
        clear hs1 hmul hmul2
        go_wp2_with ((with_reducible refine wpl_blk_int .i64 ((kn : Int) + 1) int_one (.tmp 114) (.tmp 112) rfl rfl HGB.out (b * 2074 + 2072) (by rw [HLN.out]; have := HM.out; omega) rfl rfl _ HS1.out ?_); intro w6 N6 g6 e6)
        have R5d : RD w5.drew m g Bs := ⟨R5.hd, RDr, R5.ne⟩
        have R6 : RD w6 m g (Bs.set b (B.setNx (kn + 1))) := R5d.set hok1 N6 g6
        have M6 : PArr w6 gp p := N5d.grown g6 (fun q => hgpg.out.1 q)
        have hl6 : b < (Bs.set b (B.setNx (kn + 1))).length := by rw [List.length_set]; exact hBs5
        have hb6 : (Bs.set b (B.setNx (kn + 1)))[b]'hl6 = B.setNx (kn + 1) := List.getElem_set_self hl6
        have R6d : RG w6.drew g (Bs.set b (B.setNx (kn + 1))) := ⟨R6.rg.blk, R6.rg.oks⟩
        have hok2 := RB.setPage_ok hok1 kn HPL.out
        have hbl : (bv p).length = 258 := by rw [bv_length]; exact HPL.out
        have hs2 := R6d.segSet hl6 (o := kn * 258) (vs := bv p) (B' := (B.setNx (kn + 1)).setPage kn p) (by rw [hb6]; exact RB.set_page hok1 H18.out.2 HPL.out) (by rw [hbl]; have := H18.out; omega) hok2
        obtain ⟨w7, hst7, N7, g7, e7⟩ := seg_cells_at (P := Tryz.prog) (w := w6.drew) (i := b * 2074 + kn * 258) (vs := bv p) R6d.blk (by rw [hbl, R6d.len, List.length_set]; have := HM.out; have := H18.out; omega) HONE.out
        rw [hs2, List.set_set] at N7
        have R7 : RD w7 m g (Bs.set b ((B.setNx (kn + 1)).setPage kn p)) := by
          have := (show RD w6.drew m g (Bs.set b (B.setNx (kn + 1))) from ⟨R6.hd, R6d, R6.ne⟩).set (b := b) hok2 (by rw [List.set_set]; exact N7) g7
          rw [List.set_set] at this
          exact this
        have hl7 : b < (Bs.set b ((B.setNx (kn + 1)).setPage kn p)).length := by rw [List.length_set]; exact hBs5
        have hb7 : (Bs.set b ((B.setNx (kn + 1)).setPage kn p))[b]'hl7 = (B.setNx (kn + 1)).setPage kn p := List.getElem_set_self hl7
        have hc7 : w7.cell? ⟨g, b * 2074 + 2064 + kn, none⟩ = some (.bool (((B.setNx (kn + 1)).setPage kn p).sure.getD kn false)) := by
          rw [Nat.add_assoc, R7.rg.cell hl7 (by have := H18.out; omega), hb7, RB.row_sure hok2 H18.out.2]
        have hf7 : w7.frozen? ⟨g, b * 2074 + 2064 + kn, none⟩ = false := R7.rg.blk.free _
        have N8 := R7.rg.blk.set (b * 2074 + 2064 + kn) (.bool true)
        rw [Nat.add_assoc, R7.rg.setCell hl7 (i := 2064 + kn) (by have := H18.out; omega) (.bool true) (B' := stepB B kn p true) (by rw [hb7]; exact RB.set_sure hok2 H18.out.2 true), List.set_set] at N8
        have g8 : w7.grownBy (w7.setCell ⟨g, b * 2074 + (2064 + kn), none⟩ (.bool true)) (some g) := ⟨rfl, rfl, rfl, by simp, fun k _ hk => heap_setCell_other w7 _ k _ (by simpa using hk)⟩
        have R8 : RD (w7.setCell ⟨g, b * 2074 + (2064 + kn), none⟩ (.bool true)) m g (Bs.set b (stepB B kn p true)) := by
          have := R7.set (b := b) (B' := stepB B kn p true) (stepB_ok hBok kn HPL.out true) (by rw [List.set_set]; exact N8) g8
          rw [List.set_set] at this
          exact this
        rw [← Nat.add_assoc] at R8 g8
        have S0 : PArr w6.drew gp p := M6
        have M7 : PArr w7 gp p := (show PArr w6.drew gp p from M6).grown g7 (fun q => hgpg.out.1 q)
        have M8 : PArr (w7.setCell ⟨g, b * 2074 + 2064 + kn, none⟩ (.bool true)) gp p := M7.grown g8 (fun q => hgpg.out.1 q)
        have C8 : Chg w5 (w7.setCell ⟨g, b * 2074 + 2064 + kn, none⟩ (.bool true)) (fun j => j = g) := (((Chg.of_below ((Below.refl _ _).drew)).trans (Chg.of_grown g6 (fun k e => Option.some.inj e))).trans ((Chg.of_below ((Below.refl _ _).drew)).trans (Chg.of_grown g7 (fun k e => Option.some.inj e)))).trans (Chg.of_grown g8 (fun k e => Option.some.inj e))
        clear hnc htc N6 N7 N8 R6 R7 R6d g6 g7 g8 e6 e7 hs2 hl6 hb6 hl7 hb7 hok1 hok2 hsl5
        refine wp_region_held_drew (S := fun w' => PArr w' gp p) (by kernel_rfl) S0 (fun _ => ?_)
        refine wpAnyH_take (i := 0) (v := .pointer (some ⟨g, b * 2074, none⟩)) rfl (by kernel_rfl) (by kernel_rfl) (by kernel_rfl) (fun _ _ _ h => h) (Or.inl ⟨by kernel_rfl, fun w _ => by go_simp⟩) S0 ?_
        refine wpAnyH_take (i := 1) (v := .int .i64 (kn : Int)) rfl (by kernel_rfl) (by kernel_rfl) (by kernel_rfl) (fun _ _ _ h => h) (Or.inl ⟨by kernel_rfl, fun w _ => by go_simp⟩) S0 ?_
        refine wpAnyH_take (i := 2) (v := .pointer (some ⟨g, b * 2074, none⟩)) rfl (by kernel_rfl) (by kernel_rfl) (by kernel_rfl) (fun _ _ _ h => h) (Or.inl ⟨by kernel_rfl, fun w _ => by go_simp⟩) S0 ?_
        refine wpAnyH_take (i := 3) (v := .int .i64 (kn : Int)) rfl (by kernel_rfl) (by kernel_rfl) (by kernel_rfl) (fun _ _ _ h => h) (Or.inl ⟨by kernel_rfl, fun w _ => by go_simp⟩) S0 ?_
        refine wpAnyH_take (i := 4) (v := .agg (bv p).toArray) rfl (by kernel_rfl) (by kernel_rfl) (by kernel_rfl) (fun _ _ _ h => h) (yields_ploadb (g := gp) (.tmp 11) (by kernel_rfl) (by kernel_rfl) (by kernel_rfl) (fun _ h => h)) S0 ?_
        refine wpAnyH_take (i := 5) (v := .int .i64 0) rfl (by kernel_rfl) (by kernel_rfl) (by kernel_rfl) (fun _ _ _ h => h) (Or.inl ⟨by kernel_rfl, fun w _ => by go_simp⟩) S0 ?_
        refine wpAnyH_take (i := 6) (v := .bool true) rfl (by kernel_rfl) (by kernel_rfl) (by kernel_rfl) (fun _ _ _ h => h) (Or.inl ⟨by kernel_rfl, fun w _ => by go_simp⟩) S0 ?_
        refine wpAnyH_take (i := 7) (v := .pointer (some ⟨g, b * 2074, none⟩)) rfl (by kernel_rfl) (by kernel_rfl) (by kernel_rfl) (fun _ _ _ h => h) (Or.inl ⟨by kernel_rfl, fun w _ => by go_simp⟩) S0 ?_
        refine wpAnyH_take (i := 8) (v := .pointer (some ⟨g, b * 2074, none⟩)) rfl (by kernel_rfl) (by kernel_rfl) (by kernel_rfl) (fun _ _ _ h => h) (Or.inl ⟨by kernel_rfl, fun w _ => by go_simp⟩) S0 ?_
        refine wpAnyH_take (i := 9) (v := .pointer (some ⟨g, b * 2074 + kn * 258, none⟩)) rfl (by kernel_rfl) (by kernel_rfl) (by kernel_rfl) (fun _ _ _ h => h) (Or.inl ⟨by kernel_rfl, fun w _ => by go_simp⟩) S0 ?_
        refine wpAnyH_take (i := 11) (v := .pointer (some ⟨g, b * 2074, none⟩)) rfl (by kernel_rfl) (by kernel_rfl) (by kernel_rfl) (fun _ _ _ h => h) (Or.inl ⟨by kernel_rfl, fun w _ => by go_simp⟩) S0 ?_
        refine wpAnyH_take (i := 12) (v := .pointer (some ⟨g, b * 2074 + 2064, none⟩)) rfl (by kernel_rfl) (by kernel_rfl) (by kernel_rfl) (fun _ _ _ h => h) (Or.inl ⟨by kernel_rfl, fun w _ => by go_simp⟩) S0 ?_
        refine wpAnyH_ready (rs := [10]) (by kernel_rfl) (by simp) (AllReadyH.cons rfl (fun K hK => ?_) AllReadyH.nil)
        go_simp
        refine hK.out _ _ M7 (fun _ => ?_)
        clear hK K
        refine wpAnyH_take (i := 13) (v := .pointer (some ⟨g, b * 2074 + 2064 + kn, none⟩)) rfl (by kernel_rfl) (by kernel_rfl) (by kernel_rfl) (fun _ _ _ h => h) (Or.inl ⟨by kernel_rfl, fun w _ => by go_simp⟩) M7 ?_
        refine wpAnyH_ready (rs := [14]) (by kernel_rfl) (by simp) (AllReadyH.cons rfl (fun K hK => ?_) AllReadyH.nil)
        go_simp
        refine hK.out _ _ M8 (fun _ => ?_)
        clear hK K
        refine wpAnyH_done (by kernel_rfl) ?_ _
        clear S0 M7 M8 M6
        go_wp2_with fail
        go_ret2
        exact ⟨0, rfl, HST.out _ _ _ hRr C8, by rw [← HPD.out]; exact R8, (C5.more (fun k _ q => .inl q)).trans (C8.more (fun k _ q => .inr q))⟩
      · subst hr
        have hnxe := HNX.out
        have heq : ((kn : Int) != (B.nx : Int)) = false := by simp; omega
        have hbo := HBN.out
        have hkn := HKN.out
        subst hkn
        rw [hbo] at e1 h6
        rw [show there 24 (b : Int) (kn : Int) = true from decide_eq_true (by have := H18.out; omega)] at h6
        have hb18i : (b : Int) < 18 := by have := H18.out; omega
        have hk8i : (kn : Int) < 8 := by have := H18.out; omega
        have hBs5 : b < Bs.length := by rw [HL.out]; exact H18.out.1
        have hBB : Bs[b]'hBs5 = B := (List.getElem?_eq_some_iff.1 HB.out).2
        have hBok : B.ok := by rw [← hBB]; exact R5.rg.at_ hBs5
        have RDr : RG w5.drew g Bs := ⟨R5.rg.blk, R5.rg.oks⟩
        have htc : w5.drew.cell? ⟨g, b * 2074 + 2073, none⟩ = some (.bool false) := by
          rw [RDr.cell hBs5 (by omega), hBB, RB.row_torn hBok, HTN.out]
        have hnc : w5.drew.cell? ⟨g, b * 2074 + 2072, none⟩ = some (.int .i64 (B.nx : Int)) := by
          rw [RDr.cell hBs5 (by omega), hBB, RB.row_nx hBok]
        have S0 : w5.drew.cell? ⟨m, 0, none⟩ = some (.slice (some ⟨g, 0, none⟩) 18 18) ∧ w5.drew.cell? ⟨w.heap.size, 1, none⟩ = some (.int .i64 (b : Int)) := ⟨hsl5, e1⟩
        go_wp2_with ((with_reducible refine h6.mono ?_); rintro e w' ⟨rfl, rfl⟩)
        refine wp_region_held_drew (S := fun w' => w'.cell? ⟨m, 0, none⟩ = some (.slice (some ⟨g, 0, none⟩) 18 18) ∧ w'.cell? ⟨w.heap.size, 1, none⟩ = some (.int .i64 (b : Int))) (by kernel_rfl) S0 (fun _ => ?_)
        refine wpAnyH_take (i := 0) (v := .pointer (some ⟨m, 0, none⟩)) rfl (by kernel_rfl) (by kernel_rfl) (by kernel_rfl) (fun _ _ _ h => h) (Or.inl ⟨by kernel_rfl, fun w _ => by go_simp⟩) S0 ?_
        refine wpAnyH_take (i := 1) (v := .pointer (some ⟨m, 0, none⟩)) rfl (by kernel_rfl) (by kernel_rfl) (by kernel_rfl) (fun _ _ _ h => h) (Or.inl ⟨by kernel_rfl, fun w _ => by go_simp⟩) S0 ?_
        refine wpAnyH_take (i := 2) (v := .pointer (some ⟨m, 0, none⟩)) rfl (by kernel_rfl) (by kernel_rfl) (by kernel_rfl) (fun _ _ _ h => h) (Or.inl ⟨by kernel_rfl, fun w _ => by go_simp⟩) S0 ?_
        refine wpAnyH_take (i := 3) (v := .slice (some ⟨g, 0, none⟩) 18 18) rfl (by kernel_rfl) (by kernel_rfl) (by kernel_rfl) (fun _ _ _ h => h) (yields_one (ty := 59) (fun w => by kernel_rfl) (.tmp 64) (by kernel_rfl) (by kernel_rfl) (by kernel_rfl) (fun _ h => h.1)) S0 ?_
        refine wpAnyH_take (i := 4) (v := .pointer (some ⟨w.heap.size, 1, none⟩)) rfl (by kernel_rfl) (by kernel_rfl) (by kernel_rfl) (fun _ _ _ h => h) (Or.inl ⟨by kernel_rfl, fun w _ => by go_simp⟩) S0 ?_
        refine wpAnyH_take (i := 5) (v := .int .i64 (b : Int)) rfl (by kernel_rfl) (by kernel_rfl) (by kernel_rfl) (fun _ _ _ h => h) (yields_one (ty := 3) (fun w => by kernel_rfl) (.tmp 66) (by kernel_rfl) (by kernel_rfl) (by kernel_rfl) (fun _ h => h.2)) S0 ?_
        refine wpAnyH_take (i := 6) (v := .pointer (some ⟨g, b * 2074, none⟩)) rfl (by kernel_rfl) (by kernel_rfl) (by kernel_rfl) (fun _ _ _ h => h) (Or.inl ⟨by kernel_rfl, fun w _ => by go_simp⟩) S0 ?_
        refine wpAnyH_take (i := 7) (v := .pointer (some ⟨g, b * 2074, none⟩)) rfl (by kernel_rfl) (by kernel_rfl) (by kernel_rfl) (fun _ _ _ h => h) (Or.inl ⟨by kernel_rfl, fun w _ => by go_simp⟩) S0 ?_
        refine wpAnyH_done (by kernel_rfl) ?_ _
        clear S0 htc hnc
        have hnc : w5.drew.cell? ⟨g, b * 2074 + 2072, none⟩ = some (.int .i64 (kn : Int)) := by
          rw [RDr.cell hBs5 (by omega), hBB, RB.row_nx hBok, hnxe]
        have htc : w5.drew.cell? ⟨g, b * 2074 + 2073, none⟩ = some (.bool false) := by
          rw [RDr.cell hBs5 (by omega), hBB, RB.row_torn hBok, HTN.out]
        have hok1 := RB.setNx_ok hBok (kn + 1)
        have hs1 := RDr.setCell hBs5 (i := 2072) (by omega) (.int .i64 ((kn : Int) + 1)) (B' := B.setNx (kn + 1)) (by rw [hBB, show ((kn : Int) + 1) = ((kn + 1 : Nat) : Int) by omega]; exact RB.set_nx hBok (kn + 1))
        have HS1 := Lib.hid hs1
        have HLN := Lib.hid RDr.len
        have hmul : (b + 1) * 2074 ≤ Bs.length * 2074 := Nat.mul_le_mul_right _ hBs5
        have hmul2 : (b + 1) * 2074 = b * 2074 + 2074 := Nat.succ_mul b 2074
        have HM := Lib.hid (And.intro hmul hmul2)
        have HGB := Lib.hid RDr.blk
        have N5d : PArr w5.drew gp p := N5
        clear hs1 hmul hmul2
        go_wp2_with ((with_reducible refine wpl_blk_int .i64 ((kn : Int) + 1) int_one (.tmp 114) (.tmp 112) rfl rfl HGB.out (b * 2074 + 2072) (by rw [HLN.out]; have := HM.out; omega) rfl rfl _ HS1.out ?_); intro w6 N6 g6 e6)
        have R5d : RD w5.drew m g Bs := ⟨R5.hd, RDr, R5.ne⟩
        have R6 : RD w6 m g (Bs.set b (B.setNx (kn + 1))) := R5d.set hok1 N6 g6
        have M6 : PArr w6 gp p := N5d.grown g6 (fun q => hgpg.out.1 q)
        have hl6 : b < (Bs.set b (B.setNx (kn + 1))).length := by rw [List.length_set]; exact hBs5
        have hb6 : (Bs.set b (B.setNx (kn + 1)))[b]'hl6 = B.setNx (kn + 1) := List.getElem_set_self hl6
        have R6d : RG w6.drew g (Bs.set b (B.setNx (kn + 1))) := ⟨R6.rg.blk, R6.rg.oks⟩
        have hok2 := RB.setPage_ok hok1 kn HPL.out
        have hbl : (bv p).length = 258 := by rw [bv_length]; exact HPL.out
        have hs2 := R6d.segSet hl6 (o := kn * 258) (vs := bv p) (B' := (B.setNx (kn + 1)).setPage kn p) (by rw [hb6]; exact RB.set_page hok1 H18.out.2 HPL.out) (by rw [hbl]; have := H18.out; omega) hok2
        obtain ⟨w7, hst7, N7, g7, e7⟩ := seg_cells_at (P := Tryz.prog) (w := w6.drew) (i := b * 2074 + kn * 258) (vs := bv p) R6d.blk (by rw [hbl, R6d.len, List.length_set]; have := HM.out; have := H18.out; omega) HONE.out
        rw [hs2, List.set_set] at N7
        have R7 : RD w7 m g (Bs.set b ((B.setNx (kn + 1)).setPage kn p)) := by
          have := (show RD w6.drew m g (Bs.set b (B.setNx (kn + 1))) from ⟨R6.hd, R6d, R6.ne⟩).set (b := b) hok2 (by rw [List.set_set]; exact N7) g7
          rw [List.set_set] at this
          exact this
        have hl7 : b < (Bs.set b ((B.setNx (kn + 1)).setPage kn p)).length := by rw [List.length_set]; exact hBs5
        have hb7 : (Bs.set b ((B.setNx (kn + 1)).setPage kn p))[b]'hl7 = (B.setNx (kn + 1)).setPage kn p := List.getElem_set_self hl7
        have hc7 : w7.cell? ⟨g, b * 2074 + 2064 + kn, none⟩ = some (.bool (((B.setNx (kn + 1)).setPage kn p).sure.getD kn false)) := by
          rw [Nat.add_assoc, R7.rg.cell hl7 (by have := H18.out; omega), hb7, RB.row_sure hok2 H18.out.2]
        have hf7 : w7.frozen? ⟨g, b * 2074 + 2064 + kn, none⟩ = false := R7.rg.blk.free _
        have N8 := R7.rg.blk.set (b * 2074 + 2064 + kn) (.bool false)
        rw [Nat.add_assoc, R7.rg.setCell hl7 (i := 2064 + kn) (by have := H18.out; omega) (.bool false) (B' := stepB B kn p false) (by rw [hb7]; exact RB.set_sure hok2 H18.out.2 false), List.set_set] at N8
        have g8 : w7.grownBy (w7.setCell ⟨g, b * 2074 + (2064 + kn), none⟩ (.bool false)) (some g) := ⟨rfl, rfl, rfl, by simp, fun k _ hk => heap_setCell_other w7 _ k _ (by simpa using hk)⟩
        have R8 : RD (w7.setCell ⟨g, b * 2074 + (2064 + kn), none⟩ (.bool false)) m g (Bs.set b (stepB B kn p false)) := by
          have := R7.set (b := b) (B' := stepB B kn p false) (stepB_ok hBok kn HPL.out false) (by rw [List.set_set]; exact N8) g8
          rw [List.set_set] at this
          exact this
        rw [← Nat.add_assoc] at R8 g8
        have S0 : PArr w6.drew gp p := M6
        have M7 : PArr w7 gp p := (show PArr w6.drew gp p from M6).grown g7 (fun q => hgpg.out.1 q)
        have M8 : PArr (w7.setCell ⟨g, b * 2074 + 2064 + kn, none⟩ (.bool false)) gp p := M7.grown g8 (fun q => hgpg.out.1 q)
        have C8 : Chg w5 (w7.setCell ⟨g, b * 2074 + 2064 + kn, none⟩ (.bool false)) (fun j => j = g) := (((Chg.of_below ((Below.refl _ _).drew)).trans (Chg.of_grown g6 (fun k e => Option.some.inj e))).trans ((Chg.of_below ((Below.refl _ _).drew)).trans (Chg.of_grown g7 (fun k e => Option.some.inj e)))).trans (Chg.of_grown g8 (fun k e => Option.some.inj e))
        clear hnc htc N6 N7 N8 R6 R7 R6d g6 g7 g8 e6 e7 hs2 hl6 hb6 hl7 hb7 hok1 hok2 hsl5
        refine wp_region_held_drew (S := fun w' => PArr w' gp p) (by kernel_rfl) S0 (fun _ => ?_)
        refine wpAnyH_take (i := 0) (v := .pointer (some ⟨g, b * 2074, none⟩)) rfl (by kernel_rfl) (by kernel_rfl) (by kernel_rfl) (fun _ _ _ h => h) (Or.inl ⟨by kernel_rfl, fun w _ => by go_simp⟩) S0 ?_
        refine wpAnyH_take (i := 1) (v := .int .i64 (kn : Int)) rfl (by kernel_rfl) (by kernel_rfl) (by kernel_rfl) (fun _ _ _ h => h) (Or.inl ⟨by kernel_rfl, fun w _ => by go_simp⟩) S0 ?_
        refine wpAnyH_take (i := 2) (v := .pointer (some ⟨g, b * 2074, none⟩)) rfl (by kernel_rfl) (by kernel_rfl) (by kernel_rfl) (fun _ _ _ h => h) (Or.inl ⟨by kernel_rfl, fun w _ => by go_simp⟩) S0 ?_
        refine wpAnyH_take (i := 3) (v := .int .i64 (kn : Int)) rfl (by kernel_rfl) (by kernel_rfl) (by kernel_rfl) (fun _ _ _ h => h) (Or.inl ⟨by kernel_rfl, fun w _ => by go_simp⟩) S0 ?_
        refine wpAnyH_take (i := 4) (v := .agg (bv p).toArray) rfl (by kernel_rfl) (by kernel_rfl) (by kernel_rfl) (fun _ _ _ h => h) (yields_ploadb (g := gp) (.tmp 11) (by kernel_rfl) (by kernel_rfl) (by kernel_rfl) (fun _ h => h)) S0 ?_
        refine wpAnyH_take (i := 5) (v := .int .i64 30) rfl (by kernel_rfl) (by kernel_rfl) (by kernel_rfl) (fun _ _ _ h => h) (Or.inl ⟨by kernel_rfl, fun w _ => by go_simp⟩) S0 ?_
        refine wpAnyH_take (i := 6) (v := .bool false) rfl (by kernel_rfl) (by kernel_rfl) (by kernel_rfl) (fun _ _ _ h => h) (Or.inl ⟨by kernel_rfl, fun w _ => by go_simp⟩) S0 ?_
        refine wpAnyH_take (i := 7) (v := .pointer (some ⟨g, b * 2074, none⟩)) rfl (by kernel_rfl) (by kernel_rfl) (by kernel_rfl) (fun _ _ _ h => h) (Or.inl ⟨by kernel_rfl, fun w _ => by go_simp⟩) S0 ?_
        refine wpAnyH_take (i := 8) (v := .pointer (some ⟨g, b * 2074, none⟩)) rfl (by kernel_rfl) (by kernel_rfl) (by kernel_rfl) (fun _ _ _ h => h) (Or.inl ⟨by kernel_rfl, fun w _ => by go_simp⟩) S0 ?_
        refine wpAnyH_take (i := 9) (v := .pointer (some ⟨g, b * 2074 + kn * 258, none⟩)) rfl (by kernel_rfl) (by kernel_rfl) (by kernel_rfl) (fun _ _ _ h => h) (Or.inl ⟨by kernel_rfl, fun w _ => by go_simp⟩) S0 ?_
        refine wpAnyH_take (i := 11) (v := .pointer (some ⟨g, b * 2074, none⟩)) rfl (by kernel_rfl) (by kernel_rfl) (by kernel_rfl) (fun _ _ _ h => h) (Or.inl ⟨by kernel_rfl, fun w _ => by go_simp⟩) S0 ?_
        refine wpAnyH_take (i := 12) (v := .pointer (some ⟨g, b * 2074 + 2064, none⟩)) rfl (by kernel_rfl) (by kernel_rfl) (by kernel_rfl) (fun _ _ _ h => h) (Or.inl ⟨by kernel_rfl, fun w _ => by go_simp⟩) S0 ?_
        refine wpAnyH_ready (rs := [10]) (by kernel_rfl) (by simp) (AllReadyH.cons rfl (fun K hK => ?_) AllReadyH.nil)
        go_simp
        refine hK.out _ _ M7 (fun _ => ?_)
        clear hK K
        refine wpAnyH_take (i := 13) (v := .pointer (some ⟨g, b * 2074 + 2064 + kn, none⟩)) rfl (by kernel_rfl) (by kernel_rfl) (by kernel_rfl) (fun _ _ _ h => h) (Or.inl ⟨by kernel_rfl, fun w _ => by go_simp⟩) M7 ?_
        refine wpAnyH_ready (rs := [14]) (by kernel_rfl) (by simp) (AllReadyH.cons rfl (fun K hK => ?_) AllReadyH.nil)
        go_simp
        refine hK.out _ _ M8 (fun _ => ?_)
        clear hK K
        refine wpAnyH_done (by kernel_rfl) ?_ _
        clear S0 M7 M8 M6
        go_wp2_with fail
        go_ret2
        exact ⟨30, rfl, HST.out _ _ _ hRr C8, by rw [← HPD.out]; exact R8, (C5.more (fun k _ q => .inl q)).trans (C8.more (fun k _ q => .inr q))⟩
end
end Go.Proofs.YtaafelhjcmgkdaaGreatDoor

/- The two disks in a script while the power lasts: the laws' own steps. Condition: both are in order and hold the same. -/
namespace Go.Proofs.YtaafelhjcmgkdaaGreatDoor
open Go.RowKit
/-- a block of the document's disk says this -/
structure RelB (B : RB) (L : List (List UInt8)) : Prop where
  torn : B.torn = false
  nx : B.nx = L.length
  pg : ∀ k, k < 8 → B.pg.getD k [] = if k < L.length then L.getD k [] else NM.ff
theorem RelB.blank : RelB RB.blank [] := ⟨rfl, rfl, fun k hk => by rw [if_neg (by simp)]; exact ffs_at hk⟩
theorem getD_snoc {L : List (List UInt8)} {p : List UInt8} {k : Nat} (hk : k < L.length + 1) : (L ++ [p]).getD k [] = if k < L.length then L.getD k [] else p := by
  by_cases c : k < L.length
  · rw [if_pos c, List.getD_eq_getElem?_getD, List.getElem?_append_left c, List.getD_eq_getElem?_getD]
  · rw [if_neg c, List.getD_eq_getElem?_getD, List.getElem?_append_right (by omega), show k - L.length = 0 by omega]
    rfl
theorem RelB.step {B : RB} {L : List (List UInt8)} {p : List UInt8} (h : RelB B L) (hB : B.ok) (h8 : L.length < 8) (ok : Bool) : RelB (stepB B L.length p ok) (L ++ [p]) := by
  refine ⟨h.torn, by rw [List.length_append]; rfl, fun k hk => ?_⟩
  show (B.pg.set L.length p).getD k [] = _
  rw [getD_setP (by rw [hB.p8]; exact h8), List.length_append, List.length_singleton]
  by_cases c : k = L.length
  · rw [if_pos c, if_pos (by omega), getD_snoc (by omega), if_neg (by omega)]
  · rw [if_neg c, h.pg k hk]
    by_cases c2 : k < L.length
    · rw [if_pos c2, if_pos (by omega), getD_snoc (by omega), if_pos c2]
    · rw [if_neg c2, if_neg (by omega)]
theorem RelB.fit {B : RB} {L : List (List UInt8)} {b : Bk} {k : Nat} (h : RelB B L) (hb : Has b L) (hk : k < 8) : Fit B k (b.pg.getD k []) := by
  refine .inr (.inl ?_)
  rw [h.pg k hk]
  by_cases c : k < L.length
  · rw [if_pos c, hb.pg k c]
  · rw [if_neg c, hb.ff k (by omega) hk]
def RelAll (Bs : List RB) (F : Nat → List (List UInt8)) : Prop := ∀ y B, Bs[y]? = some B → RelB B (F y)
/-- both disks in a script -/
structure Two7 (w : World) (d t m g : Nat) (a : At) (X : DS) (f e K n : Nat) (F : Nat → List (List UInt8)) (Bs : List RB) : Prop where
  one : Disk1 w d t a X 24 f e K
  all : HasAll X 24 F
  rd : RD w m g Bs
  len : Bs.length = 18
  rel : RelAll Bs F
  sum : X.l.losses + f + e ≤ n
  mg : ¬ a.disk t d m ∧ ¬ a.disk t d g ∧ g ≠ 0
section
variable {w w' : World} {d t m g : Nat} {a : At} {X : DS} {f e K n : Nat} {F : Nat → List (List UInt8)} {Bs : List RB}
theorem Two7.after (h : Two7 w d t m g a X f e K n F Bs) (hb : Below w.heap.size w w') : Two7 w' d t m g a X f e K n F Bs := ⟨h.one.after hb, h.all, h.rd.after hb, h.len, h.rel, h.sum, h.mg⟩
theorem Disk1.chg {T : Nat → Prop} {N : Nat} (h : Disk1 w d t a X N f e K) (hc : Chg w w' T) (hT : ∀ k, a.disk t d k ∨ k = 0 → ¬ T k) : Disk1 w' d t a X N f e K := ⟨h.dk.chg hc hT, h.ok, h.on, h.last, h.u, h.few⟩
theorem Two7.more (h : Two7 w d t m g a X f e K n F Bs) : Two7 w d t m g a X f e (K + 5) n F Bs := ⟨⟨h.one.dk, h.one.ok.more (by omega), h.one.on, h.one.last, h.one.u, few_le (by omega) h.one.few⟩, h.all, h.rd, h.len, h.rel, h.sum, h.mg⟩
theorem Two7.whole (h : Two7 w d t m g a X f e K n F Bs) : Calls Tryz.prog 13 #[.pointer (some ⟨d, 0, none⟩), .pointer (some ⟨m, 0, none⟩)] w fun e w' => e = .returned (.bool true) ∧ Below w.heap.size w w' :=
  whole_any h.one.zero h.rd h.len (fun b k B hk hB => by
    have hb : b < 18 := by have := get_lt hB; rw [h.len] at this; exact this
    exact (h.rel b B hB).fit (h.all b hb).2.2 hk)
theorem Two7.program (h : Two7 w d t m g a X f e K n F Bs) (hK : K ≤ 4000) (o : Op7) (y : UInt8) (hy : o.byte = ((y.toNat : Nat) : Int)) (j : Nat) (hj : j < 60) :
    Calls Tryz.prog 9 #[.pointer (some ⟨d, 0, none⟩), .pointer (some ⟨m, 0, none⟩), .agg o.row.toArray, .int .i64 (j : Int)] w fun er w' => ∃ r, er = .returned (.tuple #[.int .i64 r, .bool true]) ∧ (r == 30) = false ∧ ∃ X' f' e' F' Bs', Two7 w' d t m g a X' f' e' (K + 5) n F' Bs' ∧ Chg w w' (fun i => a.disk t d i ∨ i = g) := by
  obtain ⟨k, hk⟩ : ∃ k, k = kOf o Bs := ⟨_, rfl⟩
  obtain ⟨hm1, hm2, hm3⟩ := h.mg
  have hT := h.one.all_lt
  have ht := h.one.dk.dev.tab
  have kP : ∀ W, Below w.heap.size w W → Calls Tryz.prog 22 #[.pointer (some ⟨d, 0, none⟩), .int .i64 o.b, .int .i64 k, .agg (cl (lpg y (UInt8.ofNat j)))] W fun er W' => ∃ r, er = .returned (.int .i64 r) ∧ (r = progE 24 F o.b k ∧ ∃ X' f' e', Disk1 W' d t a X' 24 f' e' (K + 5) ∧ X'.l.losses + f' + e' ≤ n ∧ HasAll X' 24 (progF 24 F o.b k (lpg y (UInt8.ofNat j)))) ∧ RD W' m g Bs ∧ Chg W W' (a.disk t d) := fun W hW => by
    refine ((h.one.after hW).stepP h.all o.b k (lpg_stable y (UInt8.ofNat j)) hK).mono ?_
    rintro er W' ⟨rfl, X', f', e', q1, q2, q3, q4⟩
    exact ⟨_, rfl, ⟨rfl, X', f', e', q1, Nat.le_trans q2 h.sum, q3⟩, (h.rd.after hW).chg q4 hm1 hm2, q4⟩
  have hst : ∀ (r : Int) (W1 W2 : World), (r = progE 24 F o.b k ∧ ∃ X' f' e', Disk1 W1 d t a X' 24 f' e' (K + 5) ∧ X'.l.losses + f' + e' ≤ n ∧ HasAll X' 24 (progF 24 F o.b k (lpg y (UInt8.ofNat j)))) → Chg W1 W2 (fun j => j = g) → (r = progE 24 F o.b k ∧ ∃ X' f' e', Disk1 W2 d t a X' 24 f' e' (K + 5) ∧ X'.l.losses + f' + e' ≤ n ∧ HasAll X' 24 (progF 24 F o.b k (lpg y (UInt8.ofNat j)))) := fun r W1 W2 ⟨q0, X', f', e', q1, q2, q3⟩ hc =>
    ⟨q0, X', f', e', q1.chg hc (fun i hi => by
      rcases hi with hi | rfl
      · exact fun e => hm2 (e ▸ hi)
      · exact fun e => hm3 e.symm), q2, q3⟩
  by_cases hno : there 24 o.b k = false
  · refine (dprog_no hT h.rd h.len y hy j hj ht k hk kP hno (fun r W q => by
      rw [q.1]; unfold progE; rw [hno]; rfl)).mono ?_
    rintro er w' ⟨rfl, ⟨_, X', f', e', q1, q2, q3⟩, R', C'⟩
    have hF : progF 24 F o.b k (lpg y (UInt8.ofNat j)) = F := by unfold progF; rw [hno]; rfl
    rw [hF] at q3
    exact ⟨1, rfl, rfl, X', f', e', F, Bs, ⟨q1, q3, R', h.len, h.rel, q2, h.mg⟩, C'.more (fun i _ q => .inl q)⟩
  · have hth : there 24 o.b k = true := by simpa using hno
    have hb := of_decide_eq_true hth
    obtain ⟨b, hbb⟩ : ∃ b : Nat, o.b = b := ⟨o.b.toNat, by omega⟩
    obtain ⟨kn, hkn⟩ : ∃ kn : Nat, k = kn := ⟨k.toNat, by omega⟩
    have hb18 : b < 18 := by omega
    obtain ⟨B, hB⟩ : ∃ B, Bs[b]? = some B := ⟨_, List.getElem?_eq_getElem (by rw [h.len]; exact hb18)⟩
    have hr := h.rel b B hB
    have hBok : B.ok := h.rd.rg.oks B (List.mem_of_getElem? hB)
    by_cases hne : B.nx ≠ kn
    · refine (dprog_order hT h.rd h.len y hy j hj ht k hk kP hst b kn B hbb hb18 hkn (by omega) hB hr.torn hne (fun r W q => by
        rw [q.1]
        unfold progE
        rw [hth, if_pos rfl, hbb, Int.toNat_natCast, if_neg (by rw [hkn, ← hr.nx]; omega)])).mono ?_
      rintro er w' ⟨rfl, ⟨_, X', f', e', q1, q2, q3⟩, R', C'⟩
      have hF : progF 24 F o.b k (lpg y (UInt8.ofNat j)) = F := by
        unfold progF
        rw [hth, if_pos rfl, hbb, Int.toNat_natCast, if_neg (by rw [hkn, ← hr.nx]; omega)]
      rw [hF] at q3
      exact ⟨32, rfl, rfl, X', f', e', F, Bs, ⟨q1, q3, R', h.len, h.rel, q2, h.mg⟩, C'.more (fun i _ q => .inl q)⟩
    · have hnx : B.nx = kn := by omega
      have hE : progE 24 F o.b k = 0 := by
        unfold progE
        rw [hth, if_pos rfl, hbb, Int.toNat_natCast, if_pos (by rw [hkn, ← hr.nx, hnx])]
      have hF : progF 24 F o.b k (lpg y (UInt8.ofNat j)) = upd1 F b (F b ++ [lpg y (UInt8.ofNat j)]) := by
        unfold progF
        rw [hth, if_pos rfl, hbb, Int.toNat_natCast, if_pos (by rw [hkn, ← hr.nx, hnx])]
      refine (dprog_next hT h.rd h.len y hy j hj ht k hk kP hst b kn B hbb hb18 hkn (by omega) hB hr.torn hnx (fun r W q => .inl (q.1.trans hE))).mono ?_
      rintro er w' ⟨r, rfl, ⟨hr0, X', f', e', q1, q2, q3⟩, R', C'⟩
      rw [hE] at hr0
      subst hr0
      rw [hF] at q3
      have hkl : kn = (F b).length := by rw [← hnx]; exact hr.nx
      refine ⟨0, rfl, rfl, X', f', e', _, _, ⟨q1, q3, R', by rw [List.length_set]; exact h.len, fun z Z hZ => ?_, q2, h.mg⟩, C'⟩
      rw [List.getElem?_set] at hZ
      unfold upd1
      by_cases cz : b = z
      · subst cz
        rw [if_pos rfl, if_pos (get_lt hB)] at hZ
        cases hZ
        rw [if_pos rfl, hkl]
        exact hr.step hBok (by omega) _
      · rw [if_neg cz] at hZ
        rw [if_neg (fun q => cz q.symm)]
        exact h.rel z Z hZ
/-- behind the disk's Erase, before the document's -/
structure Half7 (w : World) (d t m g : Nat) (a : At) (X : DS) (f e K n : Nat) (F F' : Nat → List (List UInt8)) (Bs : List RB) : Prop where
  one : Disk1 w d t a X 24 f e K
  all : HasAll X 24 F'
  rd : RD w m g Bs
  len : Bs.length = 18
  rel : RelAll Bs F
  sum : X.l.losses + f + e ≤ n
  mg : ¬ a.disk t d m ∧ ¬ a.disk t d g ∧ g ≠ 0
theorem Half7.after {F' : Nat → List (List UInt8)} (h : Half7 w d t m g a X f e K n F F' Bs) (hb : Below w.heap.size w w') : Half7 w' d t m g a X f e K n F F' Bs := ⟨h.one.after hb, h.all, h.rd.after hb, h.len, h.rel, h.sum, h.mg⟩
theorem Two7.eraseD (h : Two7 w d t m g a X f e K n F Bs) (hK : K ≤ 4000) (b : Int) :
    Calls Tryz.prog 10 #[.pointer (some ⟨d, 0, none⟩), .int .i64 b] w fun er w' => er = .returned (.int .i64 (eraE 24 b)) ∧ ∃ X' f' e', Half7 w' d t m g a X' f' e' (K + 5) n F (eraF 24 F b) Bs ∧ Chg w w' (a.disk t d) := by
  refine (h.one.stepE h.all b hK).mono ?_
  rintro er w' ⟨rfl, X', f', e', q1, q2, q3, q4⟩
  exact ⟨rfl, X', f', e', ⟨q1, q3, h.rd.chg q4 h.mg.1 h.mg.2.1, h.len, h.rel, Nat.le_trans q2 h.sum, h.mg⟩, q4⟩
theorem Half7.kept {b : Int} (h : Half7 w d t m g a X f e K n F (eraF 24 F b) Bs) (hb : there 24 b 0 = false) : Two7 w d t m g a X f e K n F Bs := by
  have hF : eraF 24 F b = F := by unfold eraF; rw [hb]; rfl
  have q := h.all
  rw [hF] at q
  exact ⟨h.one, q, h.rd, h.len, h.rel, h.sum, h.mg⟩
set_option maxRecDepth 100000 in
theorem Half7.eraseM {b : Int} (h : Half7 w d t m g a X f e K n F (eraF 24 F b) Bs) (hb : there 24 b 0 = true) :
    Calls Tryz.prog 12 #[.pointer (some ⟨m, 0, none⟩), .int .i64 b] w fun er w' => er = .returned (.tuple #[]) ∧ ∃ F' Bs', Two7 w' d t m g a X f e K n F' Bs' ∧ Chg w w' (fun i => i = g) := by
  have h0 := of_decide_eq_true hb
  obtain ⟨bn, rfl⟩ : ∃ bn : Nat, b = bn := ⟨b.toNat, by omega⟩
  have hb18 : bn < 18 := by omega
  refine (rerase_any h.rd h.len hb18).mono ?_
  intro er w' he
  obtain ⟨he, R', C'⟩ := he
  have hF : eraF 24 F (bn : Int) = upd1 F bn [] := by
    unfold eraF
    rw [hb, if_pos rfl, Int.toNat_natCast]
  have q := h.all
  rw [hF] at q
  refine ⟨he, _, _, ⟨h.one.chg C' (fun i hi => ?_), q, R', by rw [List.length_set]; exact h.len, fun z Z hZ => ?_, h.sum, h.mg⟩, C'⟩
  · rcases hi with hi | rfl
    · exact fun e => h.mg.2.1 (e ▸ hi)
    · exact fun e => h.mg.2.2 e.symm
  · rw [List.getElem?_set] at hZ
    unfold upd1
    by_cases cz : bn = z
    · subst cz
      rw [if_pos rfl, if_pos (by rw [h.len]; exact hb18)] at hZ
      cases hZ
      rw [if_pos rfl]
      exact RelB.blank
    · rw [if_neg cz] at hZ
      rw [if_neg (fun q => cz q.symm)]
      exact h.rel z Z hZ
theorem told_not {a : At} {t d b m B : Nat} {pr : Bool} (h : ¬ a.disk t d m) (hm : m < B) (hb : B ≤ b) : ¬ (a.told pr b).disk t d m := fun hj => by
  rcases hj with hj | hj
  · rcases At.told_all hj with q | rfl
    · exact h (.inl q)
    · omega
  · exact h (.inr hj)
end
end Go.Proofs.YtaafelhjcmgkdaaGreatDoor

/- The two disks in a script while the power may end: the laws' own steps. Condition: both are in order and say the same. -/
namespace Go.Proofs.YtaafelhjcmgkdaaGreatDoor
open Go.RowKit
/-- a block of the document's disk allows this one -/
structure RelC (B : RB) (b : Bk) : Prop where
  fit : ∀ k, k < 8 → B.sure.getD k false = true → b.pg.getD k [] = B.pg.getD k [] ∨ (B.torn = true ∧ b.pg.getD k [] = NM.ff)
  nx : B.torn = false → b.nx = B.nx
  ff : B.torn = false → ∀ k, k < 8 → B.nx ≤ k → b.pg.getD k [] = NM.ff
  st : B.torn = false → ∀ k, k < 8 → k < B.nx → B.sure.getD k false = true → mendP (B.pg.getD k []) = B.pg.getD k []
theorem RelC.blank : RelC RB.blank Bk.blank := ⟨fun k hk _ => .inl ((Has.blank.ff k (Nat.zero_le _) hk).trans (ffs_at hk).symm), fun _ => rfl, fun _ k hk _ => Has.blank.ff k (Nat.zero_le _) hk, fun _ _ _ h => absurd h (Nat.not_lt_zero _)⟩
section
variable {B : RB} {b b' : Bk}
theorem RelC.fits (h : RelC B b) {k : Nat} (hk : k < 8) : Fit B k (b.pg.getD k []) := by
  unfold Fit
  cases hs : B.sure.getD k false with
  | false => exact .inl rfl
  | true => exact .inr (h.fit k hk hs)
theorem getD_setB {L : List Bool} {k : Nat} (hk : k < L.length) (i : Nat) (b : Bool) : (L.set k b).getD i false = if i = k then b else L.getD i false := by
  rw [List.getD_eq_getElem?_getD, List.getElem?_set]
  by_cases c : k = i
  · subst c
    rw [if_pos rfl, if_pos hk, if_pos rfl]
    rfl
  · rw [if_neg c, if_neg (fun q => c q.symm), List.getD_eq_getElem?_getD]
theorem RelC.step (h : RelC B b) (hB : B.ok) (ht : B.torn = false) {k : Nat} (hk : k < 8) (hn : B.nx = k) {p : List UInt8} (hp : Stable p) {o : Option (List UInt8)} (hf : Fits b b' k o) (ok : Bool) (ho : ok = true → o = some p) : RelC (stepB B k p ok) b' := by
  obtain ⟨f1, f2, f3, f4⟩ := hf
  have hpg : ∀ i, (stepB B k p ok).pg.getD i [] = if i = k then p else B.pg.getD i [] := fun i => getD_setP (by show k < B.pg.length; rw [hB.p8]; exact hk) _
  have hsu : ∀ i, (stepB B k p ok).sure.getD i false = if i = k then ok else B.sure.getD i false := fun i => getD_setB (by show k < B.sure.length; rw [hB.s8]; exact hk) _ _
  have old : ∀ i, i < 8 → B.sure.getD i false = true → b.pg.getD i [] = B.pg.getD i [] := fun i hi hs => by
    rcases h.fit i hi hs with q | q
    · exact q
    · rw [ht] at q; cases q.1
  refine ⟨fun i hi hs => .inl ?_, fun _ => f1, fun _ i hi h1 => ?_, fun _ i hi h1 hs => ?_⟩
  · rw [hsu] at hs
    rw [hpg]
    by_cases c : i = k
    · rw [if_pos c] at hs ⊢
      rw [c]
      exact f3 p (ho hs)
    · rw [if_neg c] at hs ⊢
      have e := old i hi hs
      rcases Nat.lt_or_ge i k with c2 | c2
      · rcases f2 i c2 with q | q
        · rw [q, e]
        · rw [q, e]
          exact h.st ht i hi (by omega) hs
      · have z := h.ff ht i hi (by omega)
        rw [f4 i (by omega) hi z, ← e, z]
  · have h1' : k + 1 ≤ i := h1
    exact f4 i (by omega) hi (h.ff ht i hi (by omega))
  · have h1' : i < k + 1 := h1
    rw [hsu] at hs
    rw [hpg]
    by_cases c : i = k
    · rw [if_pos c]
      exact hp.2
    · rw [if_neg c] at hs ⊢
      exact h.st ht i hi (by omega) hs
theorem RelC.tear (h : RelC B b) (hb : ∀ i, i < 8 → b'.pg.getD i [] = b.pg.getD i [] ∨ b'.pg.getD i [] = NM.ff) : RelC (B.setTorn true) b' := by
  refine ⟨fun i hi hs => ?_, (fun q => by cases q), (fun q => by cases q), (fun q => by cases q)⟩
  have hs' : B.sure.getD i false = true := hs
  show b'.pg.getD i [] = B.pg.getD i [] ∨ (true = true ∧ b'.pg.getD i [] = NM.ff)
  rcases hb i hi with q | q
  · rcases h.fit i hi hs' with z | z
    · exact .inl (q.trans z)
    · exact .inr ⟨rfl, q.trans z.2⟩
  · exact .inr ⟨rfl, q⟩
end
def RelAllC (Bs : List RB) (X : DS) : Prop := ∀ y B, Bs[y]? = some B → RelC B (X.blk y)
theorem RelAllC.set {Bs : List RB} {X Y : DS} {b : Nat} {B : RB} {b' : Bk} (h : RelAllC Bs X) (hl : Bs.length = 18) (hM : Moved X Y 24 b b') (hB : RelC B b') : RelAllC (Bs.set b B) Y := fun z Z hZ => by
  have hz : z < 18 := by have := get_lt hZ; rw [List.length_set, hl] at this; exact this
  rw [List.getElem?_set] at hZ
  by_cases cz : b = z
  · subst cz
    rw [if_pos rfl, if_pos (by rw [hl]; exact hz)] at hZ
    cases hZ
    rw [hM.1]
    exact hB
  · rw [if_neg cz] at hZ
    rw [hM.2 z hz (fun q => cz q.symm)]
    exact h z Z hZ
section
variable {w w' : World} {d t m g : Nat} {a : At} {X : DS} {N f e K : Nat} {Bs : List RB}
theorem Disk0.chg {T : Nat → Prop} (h : Disk0 w d t a X N f e K) (hc : Chg w w' T) (hT : ∀ k, a.disk t d k ∨ k = 0 → ¬ T k) : Disk0 w' d t a X N f e K := ⟨h.dk.chg hc hT, h.ok, h.on, h.u, h.few⟩
theorem Disk0.more (h : Disk0 w d t a X N f e K) : Disk0 w d t a X N f e (K + 5) := ⟨h.dk, h.ok.more (by omega), h.on, h.u, few_le (by omega) h.few⟩
theorem Disk0.wrong (h : Disk0 w d t a X N f e K) {b k : Int} (hbk : ¬ (0 ≤ b ∧ b < ((N - 6 : Nat) : Int) ∧ 0 ≤ k ∧ k < 8)) (p : List UInt8) : X.program b k p = (X, 1) := by
  have hm : NM.may X.s.off X.S.live X.S.bs.length (X.at_ b) k = 1 := by
    apply may_val h.on h.ok.fine.live
    by_cases c : 0 ≤ b ∧ b < ((N - 6 : Nat) : Int)
    · intro q; exact hbk ⟨c.1, c.2, q.2.2⟩
    · rw [at_no h.ok.sz c]; omega
  apply DS.refuse _ (by decide)
  unfold Ch.program
  rw [if_pos (by rw [hm]; decide), hm]
theorem Disk0.order (h : Disk0 w d t a X N f e K) {b k : Nat} (hb : b < N - 6) (hk : k < 8) (hn : (X.blk b).nx ≠ k) (p : List UInt8) : X.program (b : Int) (k : Int) p = (X, 32) := by
  obtain ⟨ha, hl⟩ := at_lt h.ok hb
  have hm : NM.may X.s.off X.S.live X.S.bs.length (X.at_ (b : Int)) (k : Int) = 0 := by
    rw [ha]
    exact may_here h.on h.ok.fine.live hl hk
  apply DS.refuse _ (by decide)
  unfold Ch.program
  rw [if_neg (by rw [hm]; simp), ha, Int.toNat_natCast, if_pos (by
    intro q
    apply hn
    have : X.S.nextOf (X.l.at_.getD b 0) = k := by omega
    exact this)]
theorem Disk0.refused (h : Disk0 w d t a X N f e K) {b k : Int} {p : List UInt8} (hp : p.length = 258) {r : Int} (hr : X.program b k p = (X, r)) (hK : K ≤ 4000) :
    Calls Tryz.prog 22 #[.pointer (some ⟨d, 0, none⟩), .int .i64 b, .int .i64 k, .agg (cl p)] w fun er w' => er = .returned (.int .i64 r) ∧ Disk0 w' d t a X N f e (K + 5) ∧ Chg w w' (a.disk t d) := by
  refine (dprogram_any h.dk h.u (few_le (by omega) h.few) b k hp).mono ?_
  rintro er w' ⟨rfl, D, c⟩
  rw [hr] at D ⊢
  exact ⟨rfl, Disk0.more ⟨D, h.ok, h.on, h.u, h.few⟩, c⟩
/-- the power has gone: what there is -/
structure Gone0 (w : World) (d t : Nat) (a : At) (Y : DS) (l2 : Lay) (N f e K : Nat) : Prop where
  dk : Dk w d t a Y
  off : Y.s.off = true
  ok : DOk ⟨Y.S, Y.s, l2, false⟩ N f e K
  few : Y.S.few (200 * K)
theorem Gone0.chg {Y : DS} {l2 : Lay} {T : Nat → Prop} (h : Gone0 w d t a Y l2 N f e K) (hc : Chg w w' T) (hT : ∀ k, a.disk t d k ∨ k = 0 → ¬ T k) : Gone0 w' d t a Y l2 N f e K := ⟨h.dk.chg hc hT, h.off, h.ok, h.few⟩
/-- what a Program, an Erase of the disk leave: an answer and a state -/
def Next0 (w' : World) (d t : Nat) (a : At) (X : DS) (K b : Nat) (R0 R3 : Bk → Prop) (r : Int) : Prop :=
  (r = 0 ∧ ∃ Y f e B, Disk0 w' d t a Y 24 f e K ∧ R0 B ∧ Moved X Y 24 b B) ∨ (r = 30 ∧ ∃ Y l2 f e B, Gone0 w' d t a Y l2 24 f e K ∧ R3 B ∧ Moved X ⟨Y.S, Y.s, l2, false⟩ 24 b B)
theorem Next0.chg {K b : Nat} {R0 R3 : Bk → Prop} {r : Int} {T : Nat → Prop} (h : Next0 w d t a X K b R0 R3 r) (hc : Chg w w' T) (hT : ∀ k, a.disk t d k ∨ k = 0 → ¬ T k) : Next0 w' d t a X K b R0 R3 r := by
  rcases h with ⟨h0, Y, f, e, B, h1, h2, h3⟩ | ⟨h0, Y, l2, f, e, B, h1, h2, h3⟩
  · exact .inl ⟨h0, Y, f, e, B, h1.chg hc hT, h2, h3⟩
  · exact .inr ⟨h0, Y, l2, f, e, B, h1.chg hc hT, h2, h3⟩
theorem Disk0.program (h : Disk0 w d t a X 24 f e K) {b k : Nat} (hb : b < 18) (hk : k < 8) (hn : (X.blk b).nx = k) (hkf : (X.blk b).pg.getD k [] = NM.ff) {p : List UInt8} (hp : p.length = 258) (hK : K ≤ 4000) :
    Calls Tryz.prog 22 #[.pointer (some ⟨d, 0, none⟩), .int .i64 (b : Int), .int .i64 (k : Int), .agg (cl p)] w fun er w' => ∃ r, er = .returned (.int .i64 r) ∧ Next0 w' d t a X (K + 5) b (fun B => Fits (X.blk b) B k (some p)) (fun B => Fits (X.blk b) B k none) r ∧ Chg w w' (a.disk t d) := by
  refine (dprogram_any h.dk h.u (few_le (by omega) h.few) (b : Int) (k : Int) hp).mono ?_
  rintro er w' ⟨rfl, D, c⟩
  obtain ⟨Y, r, f', e', hE, _, _, hc⟩ := program_spec h.ok h.on h.u hb hk hn hkf hp (by omega) h.dk.dev.pc.bg.2
  have hfw := few_dprogram X (b : Int) (k : Int) p _ h.few
  rw [hE] at D hfw ⊢
  refine ⟨r, rfl, ?_, c⟩
  rcases hc with ⟨rfl, q2, q3, q4, q5, ⟨B, hF, hM⟩, _, _⟩ | ⟨rfl, q2, l2, q4, q5, B, hF, hM⟩
  · exact .inl ⟨rfl, Y, f', e', B, ⟨D, q4, q2.1, q3, few_le (by omega) hfw⟩, hF, hM⟩
  · exact .inr ⟨rfl, Y, l2, f', e', B, ⟨D, q2.1, q4, few_le (by omega) hfw⟩, hF, hM⟩
theorem Disk0.erase (h : Disk0 w d t a X 24 f e K) {b : Nat} (hb : b < 18) (hK : K ≤ 4000) :
    Calls Tryz.prog 10 #[.pointer (some ⟨d, 0, none⟩), .int .i64 (b : Int)] w fun er w' => ∃ r, er = .returned (.int .i64 r) ∧ Next0 w' d t a X (K + 5) b (fun B => B = Bk.blank) (fun B => ∀ i, i < 8 → B.pg.getD i [] = (X.blk b).pg.getD i [] ∨ B.pg.getD i [] = NM.ff) r ∧ Chg w w' (a.disk t d) := by
  refine (derase_any h.dk h.u (few_le (by omega) h.few) (b : Int)).mono ?_
  rintro er w' ⟨rfl, D, c⟩
  obtain ⟨Y, r, f', e', hE, _, _, hc⟩ := erase_spec h.ok h.on h.u hb (by omega)
  have hfw := few_derase X (b : Int) _ h.few
  rw [hE] at D hfw ⊢
  refine ⟨r, rfl, ?_, c⟩
  rcases hc with ⟨rfl, q2, q3, q4, q5, hM⟩ | ⟨rfl, q2, l2, q4, q5, B, hF, hM⟩
  · exact .inl ⟨rfl, Y, f', e', Bk.blank, ⟨D, q4, q2.1, q3, few_le (by omega) hfw⟩, rfl, hM⟩
  · exact .inr ⟨rfl, Y, l2, f', e', B, ⟨D, q2.1, q4, few_le (by omega) hfw⟩, hF, hM⟩
end
end Go.Proofs.YtaafelhjcmgkdaaGreatDoor

/- The two disks in a script while the power may end: Program, Erase, Cut, On and Open. Condition: both are in order and say the same. -/
namespace Go.Proofs.YtaafelhjcmgkdaaGreatDoor
open Go.RowKit
structure Cut7 (w : World) (d t m g : Nat) (a : At) (X : DS) (f e K : Nat) (Bs : List RB) : Prop where
  one : Disk0 w d t a X 24 f e K
  rd : RD w m g Bs
  len : Bs.length = 18
  rel : RelAllC Bs X
  mg : ¬ a.disk t d m ∧ ¬ a.disk t d g ∧ g ≠ 0
structure Gone7 (w : World) (d t m g : Nat) (a : At) (Y : DS) (l2 : Lay) (f e K : Nat) (Bs : List RB) : Prop where
  one : Gone0 w d t a Y l2 24 f e K
  rd : RD w m g Bs
  len : Bs.length = 18
  rel : RelAllC Bs ⟨Y.S, Y.s, l2, false⟩
  mg : ¬ a.disk t d m ∧ ¬ a.disk t d g ∧ g ≠ 0
/-- either -/
def Next7 (w : World) (d t m g : Nat) (a : At) (K : Nat) (r : Int) : Prop := (r ≠ 30 ∧ ∃ X f e Bs, Cut7 w d t m g a X f e K Bs) ∨ (r = 30 ∧ ∃ Y l2 f e Bs, Gone7 w d t m g a Y l2 f e K Bs)
section
variable {w w' : World} {d t m g : Nat} {a : At} {X : DS} {f e K : Nat} {Bs : List RB}
theorem Cut7.after (h : Cut7 w d t m g a X f e K Bs) (hb : Below w.heap.size w w') : Cut7 w' d t m g a X f e K Bs := ⟨⟨h.one.dk.after hb, h.one.ok, h.one.on, h.one.u, h.one.few⟩, h.rd.after hb, h.len, h.rel, h.mg⟩
theorem Cut7.more (h : Cut7 w d t m g a X f e K Bs) : Cut7 w d t m g a X f e (K + 5) Bs := ⟨h.one.more, h.rd, h.len, h.rel, h.mg⟩
theorem Cut7.whole (h : Cut7 w d t m g a X f e K Bs) : Calls Tryz.prog 13 #[.pointer (some ⟨d, 0, none⟩), .pointer (some ⟨m, 0, none⟩)] w fun e w' => e = .returned (.bool true) ∧ Below w.heap.size w w' :=
  whole_any h.one h.rd h.len (fun b _ B hk hB => (h.rel b B hB).fits hk)
theorem Cut7.program (h : Cut7 w d t m g a X f e K Bs) (hK : K ≤ 4000) (o : Op7) (y : UInt8) (hy : o.byte = ((y.toNat : Nat) : Int)) (j : Nat) (hj : j < 60) (hnt : there 24 o.b 0 = true → ∀ B, Bs[o.b.toNat]? = some B → B.torn = false) :
    Calls Tryz.prog 9 #[.pointer (some ⟨d, 0, none⟩), .pointer (some ⟨m, 0, none⟩), .agg o.row.toArray, .int .i64 (j : Int)] w fun er w' => ∃ r, er = .returned (.tuple #[.int .i64 r, .bool true]) ∧ Next7 w' d t m g a (K + 5) r ∧ Chg w w' (fun i => a.disk t d i ∨ i = g) := by
  obtain ⟨k, hk⟩ : ∃ k, k = kOf o Bs := ⟨_, rfl⟩
  obtain ⟨hm1, hm2, hm3⟩ := h.mg
  have hT : ∀ k, a.disk t d k → k < w.heap.size := h.one.dk.lt
  have ht := h.one.dk.dev.tab
  have hp := lpg_stable y (UInt8.ofNat j)
  have hG : ∀ i, a.disk t d i ∨ i = 0 → ¬ i = g := fun i hi => by
    rcases hi with hi | rfl
    · exact fun e => hm2 (e ▸ hi)
    · exact fun e => hm3 e.symm
  have kR : ∀ r : Int, X.program o.b k (lpg y (UInt8.ofNat j)) = (X, r) → ∀ W, Below w.heap.size w W → Calls Tryz.prog 22 #[.pointer (some ⟨d, 0, none⟩), .int .i64 o.b, .int .i64 k, .agg (cl (lpg y (UInt8.ofNat j)))] W fun er W' => ∃ r', er = .returned (.int .i64 r') ∧ (r' = r ∧ Disk0 W' d t a X 24 f e (K + 5)) ∧ RD W' m g Bs ∧ Chg W W' (a.disk t d) := fun r hr W hW => by
    refine ((h.after hW).one.refused hp.1 hr hK).mono ?_
    rintro er W' ⟨rfl, q1, q2⟩
    exact ⟨_, rfl, ⟨rfl, q1⟩, (h.rd.after hW).chg q2 hm1 hm2, q2⟩
  by_cases hno : there 24 o.b k = false
  · have hw : ¬ (0 ≤ o.b ∧ o.b < ((24 - 6 : Nat) : Int) ∧ 0 ≤ k ∧ k < 8) := of_decide_eq_false hno
    refine (dprog_no (R := fun r' W' => r' = 1 ∧ Disk0 W' d t a X 24 f e (K + 5)) hT h.rd h.len y hy j hj ht k hk (kR 1 (h.one.wrong hw _)) hno (fun r W q => q.1)).mono ?_
    rintro er w' ⟨rfl, ⟨_, q1⟩, R', C'⟩
    exact ⟨1, rfl, .inl ⟨by decide, X, f, e, Bs, ⟨q1, R', h.len, h.rel, h.mg⟩⟩, C'.more (fun i _ q => .inl q)⟩
  · have hth : there 24 o.b k = true := by simpa using hno
    have hb := of_decide_eq_true hth
    obtain ⟨b, hbb⟩ : ∃ b : Nat, o.b = b := ⟨o.b.toNat, by omega⟩
    obtain ⟨kn, hkn⟩ : ∃ kn : Nat, k = kn := ⟨k.toNat, by omega⟩
    have hb18 : b < 18 := by omega
    have hk8 : kn < 8 := by omega
    obtain ⟨B, hB⟩ : ∃ B, Bs[b]? = some B := ⟨_, List.getElem?_eq_getElem (by rw [h.len]; exact hb18)⟩
    have hr := h.rel b B hB
    have hBok : B.ok := h.rd.rg.oks B (List.mem_of_getElem? hB)
    have htn : B.torn = false := hnt (decide_eq_true ⟨hb.1, hb.2.1, by omega, by omega⟩) B (by rw [hbb, Int.toNat_natCast]; exact hB)
    by_cases hne : B.nx ≠ kn
    · refine (dprog_order (R := fun r' W' => r' = 32 ∧ Disk0 W' d t a X 24 f e (K + 5)) hT h.rd h.len y hy j hj ht k hk (kR 32 (by rw [hbb, hkn]; exact h.one.order hb18 hk8 (by rw [hr.nx htn]; exact hne) _)) (fun r W1 W2 q hc => ⟨q.1, q.2.chg hc hG⟩) b kn B hbb hb18 hkn hk8 hB htn hne (fun r W q => q.1)).mono ?_
      rintro er w' ⟨rfl, ⟨_, q1⟩, R', C'⟩
      exact ⟨32, rfl, .inl ⟨by decide, X, f, e, Bs, ⟨q1, R', h.len, h.rel, h.mg⟩⟩, C'.more (fun i _ q => .inl q)⟩
    · have hnx : B.nx = kn := by omega
      have kN : ∀ W, Below w.heap.size w W → Calls Tryz.prog 22 #[.pointer (some ⟨d, 0, none⟩), .int .i64 o.b, .int .i64 k, .agg (cl (lpg y (UInt8.ofNat j)))] W fun er W' => ∃ r', er = .returned (.int .i64 r') ∧ Next0 W' d t a X (K + 5) b (fun Z => Fits (X.blk b) Z kn (some (lpg y (UInt8.ofNat j)))) (fun Z => Fits (X.blk b) Z kn none) r' ∧ RD W' m g Bs ∧ Chg W W' (a.disk t d) := fun W hW => by
        rw [hbb, hkn]
        refine ((h.after hW).one.program hb18 hk8 ((hr.nx htn).trans hnx) (hr.ff htn kn hk8 (by omega)) hp.1 hK).mono ?_
        rintro er W' ⟨r, rfl, q1, q2⟩
        exact ⟨_, rfl, q1, (h.rd.after hW).chg q2 hm1 hm2, q2⟩
      refine (dprog_next hT h.rd h.len y hy j hj ht k hk kN (fun r W1 W2 q hc => q.chg hc hG) b kn B hbb hb18 hkn hk8 hB htn hnx (fun r W q => q.elim (fun z => .inl z.1) (fun z => .inr z.1))).mono ?_
      rintro er w' ⟨r, rfl, q, R', C'⟩
      refine ⟨r, rfl, ?_, C'⟩
      rcases q with ⟨rfl, Y, f', e', Z, q1, q2, q3⟩ | ⟨rfl, Y, l2, f', e', Z, q1, q2, q3⟩
      · exact .inl ⟨by decide, Y, f', e', _, ⟨q1, R', by rw [List.length_set]; exact h.len, h.rel.set h.len q3 (hr.step hBok htn hk8 hnx hp q2 _ (fun _ => rfl)), h.mg⟩⟩
      · exact .inr ⟨rfl, Y, l2, f', e', _, ⟨q1, R', by rw [List.length_set]; exact h.len, h.rel.set h.len q3 (hr.step hBok htn hk8 hnx hp q2 _ (fun z => by cases z)), h.mg⟩⟩
/-- behind the disk's Erase, before the document's -/
structure Half8 (w : World) (d t m g : Nat) (a : At) (X : DS) (K b : Nat) (Bs : List RB) (r : Int) : Prop where
  nxt : Next0 w d t a X K b (fun B => B = Bk.blank) (fun B => ∀ i, i < 8 → B.pg.getD i [] = (X.blk b).pg.getD i [] ∨ B.pg.getD i [] = NM.ff) r
  rd : RD w m g Bs
  len : Bs.length = 18
  rel : RelAllC Bs X
  mg : ¬ a.disk t d m ∧ ¬ a.disk t d g ∧ g ≠ 0
theorem Cut7.erase (h : Cut7 w d t m g a X f e K Bs) (hK : K ≤ 4000) {b : Nat} (hb : b < 18) :
    Calls Tryz.prog 10 #[.pointer (some ⟨d, 0, none⟩), .int .i64 (b : Int)] w fun er w' => ∃ r, er = .returned (.int .i64 r) ∧ (r = 0 ∨ r = 30) ∧ Half8 w' d t m g a X (K + 5) b Bs r ∧ Chg w w' (a.disk t d) := by
  refine (h.one.erase hb hK).mono ?_
  rintro er w' ⟨r, rfl, q1, q2⟩
  exact ⟨r, rfl, q1.elim (fun z => .inl z.1) (fun z => .inr z.1), ⟨q1, h.rd.chg q2 h.mg.1 h.mg.2.1, h.len, h.rel, h.mg⟩, q2⟩
/-- the document's Erase, and the mark: as what stands behind -/
theorem Half8.ok {b : Nat} (h : Half8 w d t m g a X K b Bs 0) (hc : Chg w w' (fun i => i = g)) (hR : RD w' m g ((Bs.set b RB.blank).set b (RB.blank.setTorn false))) : Next7 w' d t m g a K 0 := by
  have hG : ∀ i, a.disk t d i ∨ i = 0 → ¬ i = g := fun i hi => by
    rcases hi with hi | rfl
    · exact fun e => h.mg.2.1 (e ▸ hi)
    · exact fun e => h.mg.2.2 e.symm
  rcases h.nxt.chg hc hG with ⟨_, Y, f', e', Z, q1, q2, q3⟩ | ⟨h0, _⟩
  · rw [List.set_set] at hR
    exact .inl ⟨by decide, Y, f', e', _, ⟨q1, hR, by rw [List.length_set]; exact h.len, h.rel.set h.len q3 (by rw [q2]; exact RelC.blank), h.mg⟩⟩
  · exact absurd h0 (by decide)
theorem Half8.torn {b : Nat} {B : RB} (h : Half8 w d t m g a X K b Bs 30) (hB : Bs[b]? = some B) (hc : Chg w w' (fun i => i = g)) (hR : RD w' m g (Bs.set b (B.setTorn true))) : Next7 w' d t m g a K 30 := by
  have hG : ∀ i, a.disk t d i ∨ i = 0 → ¬ i = g := fun i hi => by
    rcases hi with hi | rfl
    · exact fun e => h.mg.2.1 (e ▸ hi)
    · exact fun e => h.mg.2.2 e.symm
  rcases h.nxt.chg hc hG with ⟨h0, _⟩ | ⟨_, Y, l2, f', e', Z, q1, q2, q3⟩
  · exact absurd h0 (by decide)
  · exact .inr ⟨rfl, Y, l2, f', e', _, ⟨q1, hR, by rw [List.length_set]; exact h.len, h.rel.set h.len q3 ((h.rel b B hB).tear q2), h.mg⟩⟩
/-- Cut -/
theorem Cut7.cut (h : Cut7 w d t m g a X f e K Bs) (n : Nat) (hn : n < 8) (keep : Int) : Calls Tryz.prog 15 #[.pointer (some ⟨a.p, 0, none⟩), .int .i64 (n : Int), .int .i64 keep] w fun er w' => er = .returned (.tuple #[]) ∧ (∃ X', Cut7 w' d t m g a X' f e K Bs) ∧ Chg w w' (a.disk t d) := by
  refine (cut_any a.p X.s (n : Int) keep w h.one.dk.dev.pw).mono ?_
  rintro er w' ⟨rfl, P, gr⟩
  have q : Chg w w' (fun k => k = a.p) := Chg.of_grown gr (fun k e => Option.some.inj e)
  have pa : a.all a.p := .inr rfl
  have q2 : Chg w w' (a.disk t d) := q.more (fun i _ e => by rw [e]; exact .inl pa)
  have ff : (X.s.cut (n : Int) keep).fits := ⟨by unfold NM.Pwr.cut; rw [if_neg (by omega)]; show (-9223372036854775808 : Int) ≤ (n : Int); omega, by unfold NM.Pwr.cut; rw [if_neg (by omega)]; show (n : Int) < 9223372036854775808; omega⟩
  have hd := h.one.dk
  refine ⟨rfl, ⟨⟨X.S, X.s.cut (n : Int) keep, X.l, X.u⟩, ⟨⟨⟨hd.blk.chg q (fun e => hd.da (e ▸ pa)), hd.tb.chg q (fun e => hd.tb.na (e ▸ pa)), hd.dev.cut gr P ff, hd.dt, hd.da, hd.good⟩, ⟨h.one.ok.fine, h.one.ok.sz, h.one.ok.n2, h.one.ok.good, h.one.ok.tab, h.one.ok.room⟩, h.one.on, h.one.u, h.one.few⟩, h.rd.chg q2 h.mg.1 h.mg.2.1, h.len, h.rel, h.mg⟩⟩, q2⟩
/-- the power is on again -/
structure Back7 (w : World) (d m g : Nat) (a : At) (Y : DS) (l2 : Lay) (f e K : Nat) (Bs : List RB) : Prop where
  dev : Dev w a Y.S Y.s.on
  ok : DOk ⟨Y.S, Y.s.on, l2, false⟩ 24 f e K
  few : Y.S.few (200 * K)
  rd : RD w m g Bs
  len : Bs.length = 18
  rel : RelAllC Bs ⟨Y.S, Y.s.on, l2, false⟩
  mg : ¬ a.all m ∧ ¬ a.all g ∧ g ≠ 0
  c0 : w.cell? ⟨d, 0, none⟩ = some (.pointer (some ⟨a.c, 0, none⟩))
theorem Gone7.on {Y : DS} {l2 : Lay} (h : Gone7 w d t m g a Y l2 f e K Bs) : Calls Tryz.prog 17 #[.pointer (some ⟨a.p, 0, none⟩)] w fun er w' => er = .returned (.tuple #[]) ∧ Back7 w' d m g a Y l2 f e K Bs ∧ Chg w w' (a.disk t d) := by
  refine (pon_any a.p Y.s w h.one.dk.dev.pw).mono ?_
  rintro er w' ⟨rfl, P, gr⟩
  have q : Chg w w' (fun k => k = a.p) := Chg.of_grown gr (fun k e => Option.some.inj e)
  have pa : a.all a.p := .inr rfl
  have q2 : Chg w w' (a.disk t d) := q.more (fun i _ e => by rw [e]; exact .inl pa)
  have ff : Y.s.on.fits := ⟨by show (-9223372036854775808 : Int) ≤ -1; omega, by show (-1 : Int) < 9223372036854775808; omega⟩
  have hd := h.one.dk
  exact ⟨rfl, ⟨hd.dev.cut gr P ff, ⟨h.one.ok.fine, h.one.ok.sz, h.one.ok.n2, h.one.ok.good, h.one.ok.tab, h.one.ok.room⟩, h.one.few, h.rd.chg q2 h.mg.1 h.mg.2.1, h.len, h.rel, ⟨fun z => h.mg.1 (.inl z), fun z => h.mg.2.1 (.inl z), h.mg.2.2⟩, (hd.blk.chg q (fun e => hd.da (e ▸ pa))).cell 0⟩, q2⟩
theorem Back7.open_ {Y : DS} {l2 : Lay} (h : Back7 w d m g a Y l2 f e K Bs) : Calls Tryz.prog 18 #[.pointer (some ⟨a.c, 0, none⟩)] w fun er w' => ∃ d' t', er = .returned (.tuple #[.pointer (some ⟨d', 0, none⟩), .int .i64 0]) ∧ w.heap.size ≤ d' ∧ w.heap.size ≤ t' ∧ Cut7 w' d' t' m g a ⟨Y.S, Y.s.on, l2, false⟩ f e K Bs ∧ Below w.heap.size w w' := by
  refine (dopen_any (X := ⟨Y.S, Y.s.on, l2, false⟩) h.dev h.ok rfl).mono ?_
  rintro er w' ⟨d', t', h1, h2, rfl, D, b⟩
  have lm := h.rd.hd.lt
  have lg := h.rd.rg.lt
  have nn : ∀ z, ¬ a.all z → z < w.heap.size → ¬ a.disk t' d' z := fun z hz hl q => by
    rcases q with q | q | q
    · exact hz q
    · omega
    · omega
  exact ⟨d', t', rfl, h2, h1, ⟨⟨D, h.ok, rfl, rfl, h.few⟩, h.rd.after b, h.len, h.rel, ⟨nn m h.mg.1 lm, nn g h.mg.2.1 lg, h.mg.2.2⟩⟩, b⟩
theorem Cut7.isOff (h : Cut7 w d t m g a X f e K Bs) : Calls Tryz.prog 16 #[.pointer (some ⟨a.p, 0, none⟩)] w fun e w' => e = .returned (.bool false) ∧ w = w' := by
  have k := off_any a.p X.s w h.one.dk.dev.pw
  rw [h.one.on] at k
  exact k
theorem Gone7.isOff {Y : DS} {l2 : Lay} (h : Gone7 w d t m g a Y l2 f e K Bs) : Calls Tryz.prog 16 #[.pointer (some ⟨a.p, 0, none⟩)] w fun e w' => e = .returned (.bool true) ∧ w = w' := by
  have k := off_any a.p Y.s w h.one.dk.dev.pw
  rw [h.one.off] at k
  exact k
end
end Go.Proofs.YtaafelhjcmgkdaaGreatDoor

/- A slice of numbers that a law makes itself: what it reads as. No condition. -/
namespace Go.Proofs.YtaafelhjcmgkdaaGreatDoor
open Go.RowKit
theorem dintTy : OneCell Tryz.prog 23 3 (.int .i64 0) 8 := OneCell.mk' Tryz.underlying23 (by kernel_rfl) (by decide)
def zv (L : List Nat) : List Value := L.map fun z : Nat => Value.int .i64 (z : Int)
theorem wf_small {z : Nat} (h : z < 100) : (Lit.int .i64 (z : Int)).wf = true := by
  simp only [Lit.wf, Bool.and_eq_true, IntKind.min, IntKind.max, IntKind.signed, IntKind.bits]
  simp
  omega
theorem nums_own {w : World} {base n c : Nat} {A : Option Addr} {L : List Nat} (h : w.ownsRow base 3 1 (.slice A n c) n (zv L)) (hn : L.length = n) (hL : ∀ z ∈ L, z < 100) : Nums w w.heap.size .i64 (.slice A n c) (L.map fun z : Nat => (z : Int)) := by
  obtain ⟨A', c', e, h1, h2⟩ := ownsRow_shape h
  cases e
  refine ⟨A, c, by rw [List.length_map, hn], by rw [List.length_map, hn]; exact h1, h2, ?_, fun z hz => ?_⟩
  · have := ownsRow_row h
    unfold zv at this
    rw [List.map_map]
    exact this
  · obtain ⟨m, hm, rfl⟩ := List.mem_map.1 hz
    exact wf_small (hL m hm)
end Go.Proofs.YtaafelhjcmgkdaaGreatDoor

