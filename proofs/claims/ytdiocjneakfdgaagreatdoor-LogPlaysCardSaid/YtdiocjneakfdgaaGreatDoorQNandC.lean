/- Several texts of the proof, joined: what each has is said at its head. -/
import Derived.Test.YtdiocjneakfdgaaGreatDoorQNandB
import Derived.Test.YtdiocjneakfdgaaGreatDoorQNandA
/- The contracts of a block's write and wipe. No condition but that the block and the page are there. -/
namespace Go.Proofs.YtdiocjneakfdgaaGreatDoor
open Go.RowKit
section
variable {w : World} {g : Nat} {Bs : List Bk}
theorem BG.byte' (h : BG w g Bs) {b k i : Nat} (hb : b < Bs.length) (hk : k < 8) (hi : i < 258) {x : UInt8} (hx : x = (Bs[b].pg.getD k []).getD i 0) : w.cell? ⟨g, b * 2066 + k * 258 + i, none⟩ = some (.int .u8 ((x.toNat : Nat) : Int)) := by
  rw [Nat.add_assoc, h.byte hb hk hi, hx]
theorem BG.setByte' (h : BG w g Bs) {b k i : Nat} (hb : b < Bs.length) (hk : k < 8) (hi : i < 258) (x : UInt8) : BG (w.setCell ⟨g, b * 2066 + k * 258 + i, none⟩ (.int .u8 ((x.toNat : Nat) : Int))) g (Bs.set b (Bs[b].setPage k ((Bs[b].pg.getD k []).set i x))) := by
  rw [Nat.add_assoc]
  exact h.setByte hb hk hi x
end
/-- block b with its page k as l -/
def putPage (Bs : List Bk) (b k : Nat) (l : List UInt8) : List Bk := Bs.set b ((Bs.getD b ⟨[], 0, false⟩).setPage k l)
def pageOf (Bs : List Bk) (b k : Nat) : List UInt8 := (Bs.getD b ⟨[], 0, false⟩).pg.getD k []
section
variable {Bs : List Bk} {b k : Nat}
theorem getBk (hb : b < Bs.length) : Bs.getD b ⟨[], 0, false⟩ = Bs[b] := by rw [List.getD_eq_getElem?_getD, List.getElem?_eq_getElem hb, Option.getD_some]
theorem putPage_length (l : List UInt8) : (putPage Bs b k l).length = Bs.length := by simp [putPage]
theorem putPage_at (hb : b < Bs.length) (l : List UInt8) : (putPage Bs b k l)[b]'(by rw [putPage_length]; exact hb) = Bs[b].setPage k l := by
  unfold putPage
  rw [List.getElem_set_self, getBk hb]
theorem putPage_two (hb : b < Bs.length) (l m : List UInt8) : putPage (putPage Bs b k l) b k m = putPage Bs b k m := by
  have e := putPage_at (k := k) hb l
  unfold putPage at *
  rw [getBk (Bs := Bs.set b _) (by rw [List.length_set]; exact hb), e, List.set_set, Bk.setPage_two, getBk hb]
theorem pageOf_put (h : ∀ x ∈ Bs, x.ok) (hb : b < Bs.length) (hk : k < 8) (l : List UInt8) : pageOf (putPage Bs b k l) b k = l := by
  unfold pageOf
  rw [getBk (by rw [putPage_length]; exact hb), putPage_at hb]
  unfold Bk.setPage
  simp only
  rw [List.getD_eq_getElem?_getD, List.getElem?_set_self (by rw [(h _ (List.getElem_mem hb)).1]; exact hk), Option.getD_some]
theorem putPage_self (h : ∀ x ∈ Bs, x.ok) (hb : b < Bs.length) (hk : k < 8) : putPage Bs b k (pageOf Bs b k) = Bs := by
  unfold putPage pageOf
  rw [getBk hb, Bk.setPage_self (h _ (List.getElem_mem hb)) hk, List.set_getElem_self]
theorem pageOf_length (h : ∀ x ∈ Bs, x.ok) (hb : b < Bs.length) (hk : k < 8) : (pageOf Bs b k).length = 258 := by
  unfold pageOf
  rw [getBk hb]
  exact Bk.page_length (h _ (List.getElem_mem hb)) hk
end
theorem BG.pbyte {w : World} {g : Nat} {Bs : List Bk} (h : BG w g Bs) {b k i : Nat} (hb : b < Bs.length) (hk : k < 8) (hi : i < 258) {x : UInt8} (hx : x = (pageOf Bs b k).getD i 0) : w.cell? ⟨g, b * 2066 + k * 258 + i, none⟩ = some (.int .u8 ((x.toNat : Nat) : Int)) :=
  h.byte' hb hk hi (by rw [hx]; unfold pageOf; rw [getBk hb])
theorem BG.pset {w : World} {g : Nat} {Bs : List Bk} (h : BG w g Bs) {b k i : Nat} (hb : b < Bs.length) (hk : k < 8) (hi : i < 258) (x : UInt8) : BG (w.setCell ⟨g, b * 2066 + k * 258 + i, none⟩ (.int .u8 ((x.toNat : Nat) : Int))) g (putPage Bs b k ((pageOf Bs b k).set i x)) := by
  have := h.setByte' hb hk hi x
  unfold putPage pageOf
  rw [getBk hb]
  exact this
theorem u8_and' (x y : UInt8) : bits .and .u8 ((x.toNat : Nat) : Int) ((y.toNat : Nat) : Int) = (((x &&& y).toNat : Nat) : Int) := u8_and x y
theorem ngrown_setCell (w : World) (g k : Nat) (v : Value) : w.grownBy (w.setCell ⟨g, k, none⟩ v).drew (some g) :=
  ⟨rfl, rfl, rfl, by simp, fun j _ hj => Below.heap_setCell w _ v j (by simpa using hj)⟩
set_option maxRecDepth 100000 in
set_option maxHeartbeats 4000000 in
theorem bwrite_any (g : Nat) (Bs : List Bk) (b k n : Nat) (hb : b < Bs.length) (hk : k < 8) (hn : n ≤ 258) (d : List UInt8) (hd : d.length = 258) (w : World) (hB : BG w g Bs) :
    Calls Tryz.prog 127 #[.pointer (some ⟨g, b * 2066, none⟩), .int .i64 k, .agg (cl d), .int .i64 n] w fun e w' => e = .returned (.tuple #[]) ∧ BG w' g (putPage Bs b k (NM.wr n (pageOf Bs b k) d)) ∧ Chg w w' (fun j => j = g) := by
  have D0 := Lib.hid (PArr.new w hd)
  have hgw := hB.lt
  have hok := hB.2
  have hpl := pageOf_length hok hb hk
  have B0 : Hid (BG (w.alloc (.cells (cl d) 92)) g (putPage Bs b k (NM.wr 0 (pageOf Bs b k) d))) := Lib.hid (by rw [NM.wr_zero, putPage_self hok hb hk]; exact hB.alloc _)
  have G0 : Hid (Chg w (w.alloc (.cells (cl d) 92)) (fun j => j = g)) := Lib.hid (Chg.of_below ((Below.refl _ _).alloc (Nat.le_refl _) _))
  have HOK := Lib.hid hok
  clear hB hok
  go_enter Tryz.func127, Tryz.ntmps127
  go_wp2_with fail
  go_loopw [10] (fun i wr => ∃ j : Nat, j ≤ n ∧ i = .int .i64 j ∧ PArr wr w.heap.size d ∧ BG wr g (putPage Bs b k (NM.wr j (pageOf Bs b k) d)) ∧ Chg w wr (fun j => j = g)) (fun i _ => n - (intOf i).toNat)
  case atStart => exact ⟨0, by omega, rfl, D0.out, B0.out, G0.out⟩
  case round =>
    obtain ⟨j, hj, rfl, hD, hP, hG⟩ := hrel
    by_cases hlt : j < n
    · obtain ⟨y, hy⟩ : ∃ y, y = d[j] := ⟨_, rfl⟩
      obtain ⟨x, hx⟩ : ∃ x, x = (pageOf Bs b k)[j]'(by omega) := ⟨_, rfl⟩
      have hb' : b < (putPage Bs b k (NM.wr j (pageOf Bs b k) d)).length := by rw [putPage_length]; exact hb
      have e2 : wr.cell? ⟨w.heap.size, j, none⟩ = some (.int .u8 ((y.toNat : Nat) : Int)) := (hD.cell j).trans (by rw [hy]; exact cl_get (by omega))
      have e3 : wr.cell? ⟨g, b * 2066 + k * 258 + j, none⟩ = some (.int .u8 ((x.toNat : Nat) : Int)) := hP.pbyte hb' hk (by omega) (by
        rw [pageOf_put HOK.out hb hk, List.getD_eq_getElem?_getD, NM.wr_get, List.getElem?_eq_getElem (by omega), hx]
        simp)
      have e4 : wr.frozen? ⟨g, b * 2066 + k * 258 + j, none⟩ = false := hP.free _
      have e5 := u8_and' x y
      obtain ⟨z, hz⟩ : ∃ z, z = x &&& y := ⟨_, rfl⟩
      rw [← hz] at e5
      have HZ : Hid ((NM.wr j (pageOf Bs b k) d).set j z = NM.wr (j + 1) (pageOf Bs b k) d) := Lib.hid (by
        have := NM.wr_step (k := j) (L := pageOf Bs b k) (d := d) (by omega)
        rw [← hx, List.getD_eq_getElem?_getD, List.getElem?_eq_getElem (by omega), Option.getD_some, ← hy, ← hz] at this
        exact this)
      have HD := Lib.hid hD
      have HP := Lib.hid hP
      have HG := Lib.hid hG
      clear hD hP hG D0 B0 G0 hx hy hz
      go_wp2_with fail
      go_region
      clear e2 e3 e4 e5
      have hw1 := (HP.out.pset hb' hk (i := j) (by omega) z).drew
      rw [pageOf_put HOK.out hb hk, putPage_two hb, HZ.out] at hw1
      have D1 := Lib.hid (HD.out.other ⟨g, b * 2066 + k * 258 + j, none⟩ (.int .u8 ((z.toNat : Nat) : Int)) (by show w.heap.size ≠ g; omega)).drew
      have G1 : Hid (Chg w (wr.setCell ⟨g, b * 2066 + k * 258 + j, none⟩ (.int .u8 ((z.toNat : Nat) : Int))).drew (fun j => j = g)) := Lib.hid (HG.out.trans (Chg.of_grown (ngrown_setCell wr g _ _) (fun k e => Option.some.inj e)))
      have P1 := Lib.hid hw1
      obtain ⟨w5, h5⟩ : ∃ w5, w5 = (wr.setCell ⟨g, b * 2066 + k * 258 + j, none⟩ (.int .u8 ((z.toNat : Nat) : Int))).drew := ⟨_, rfl⟩
      have D1' : Hid (PArr w5 w.heap.size d) := by rw [h5]; exact D1
      rw [← h5] at G1 P1 ⊢
      clear h5 HD HP HG hw1 D1
      go_wp2_with fail
      exact ⟨⟨j + 1, by omega, by go_num, D1'.out, P1.out, G1.out⟩, by simp [intOf]; omega⟩
    · obtain rfl : j = n := by omega
      go_wp2_with fail
      go_end0
      exact ⟨rfl, hP, hG⟩
/-- the first k pages are blank -/
def wipP (k : Nat) (P : List (List UInt8)) : List (List UInt8) := List.replicate (min k P.length) NM.ff ++ P.drop k
theorem wipP_length (k : Nat) (P : List (List UInt8)) : (wipP k P).length = P.length := by simp [wipP]; omega
theorem wipP_zero (P : List (List UInt8)) : wipP 0 P = P := by simp [wipP]
theorem wipP_step {k : Nat} {P : List (List UInt8)} (hk : k < P.length) : (wipP k P).set k NM.ff = wipP (k + 1) P := by
  unfold wipP
  have hl : (List.replicate (min k P.length) NM.ff).length = k := by simp; omega
  rw [List.set_append_right _ _ (by rw [hl]; exact Nat.le_refl _), hl, Nat.sub_self, List.drop_eq_getElem_cons hk, List.set_cons_zero, show min (k + 1) P.length = min k P.length + 1 by omega, List.replicate_succ', List.append_assoc]
  rfl
def wipeB (Bs : List Bk) (b n : Nat) : List Bk := Bs.set b { Bs.getD b ⟨[], 0, false⟩ with pg := wipP n (Bs.getD b ⟨[], 0, false⟩).pg }
section
variable {Bs : List Bk} {b : Nat}
theorem wipeB_length (n : Nat) : (wipeB Bs b n).length = Bs.length := by simp [wipeB]
theorem wipeB_zero (hb : b < Bs.length) : wipeB Bs b 0 = Bs := by
  unfold wipeB
  rw [wipP_zero, getBk hb]
  exact List.set_getElem_self hb
theorem wipeB_at (hb : b < Bs.length) (n : Nat) : (wipeB Bs b n)[b]'(by rw [wipeB_length]; exact hb) = { Bs[b] with pg := wipP n Bs[b].pg } := by
  unfold wipeB
  rw [List.getElem_set_self, getBk hb]
theorem wipeB_ok (h : ∀ x ∈ Bs, x.ok) (hb : b < Bs.length) (n : Nat) : ∀ x ∈ wipeB Bs b n, x.ok := fun x hx => by
  rcases List.mem_or_eq_of_mem_set hx with h' | h'
  · exact h x h'
  · have ho := h _ (List.getElem_mem hb)
    rw [h', getBk hb]
    refine ⟨by show (wipP n _).length = 8; rw [wipP_length, ho.1], fun l hl => ?_, ho.2.2⟩
    have hl' : l ∈ wipP n Bs[b].pg := hl
    unfold wipP at hl'
    rcases List.mem_append.1 hl' with h1 | h1
    · rw [List.eq_of_mem_replicate h1]; exact NM.ff_length
    · exact ho.2.1 _ (List.mem_of_mem_drop h1)
theorem wipeB_step (h : ∀ x ∈ Bs, x.ok) (hb : b < Bs.length) {n : Nat} (hn : n < 8) : putPage (wipeB Bs b n) b n NM.ff = wipeB Bs b (n + 1) := by
  have e := wipeB_at hb n
  unfold putPage
  rw [getBk (by rw [wipeB_length]; exact hb), e]
  unfold wipeB Bk.setPage
  rw [List.set_set, getBk hb]
  simp only
  rw [wipP_step (by rw [(h _ (List.getElem_mem hb)).1]; exact hn)]
end
set_option maxRecDepth 100000 in
set_option maxHeartbeats 4000000 in
theorem bwipe_any (g : Nat) (Bs : List Bk) (b n : Nat) (hb : b < Bs.length) (hn : n ≤ 8) (hN : Bs.length ≤ 40) (w : World) (hB : BG w g Bs) :
    Calls Tryz.prog 41 #[.pointer (some ⟨g, b * 2066, none⟩), .int .i64 n] w fun e w' => e = .returned (.tuple #[]) ∧ BG w' g (wipeB Bs b n) ∧ Chg w w' (fun j => j = g) := by
  have hok := hB.2
  have B0 : Hid (BG w g (wipeB Bs b 0)) := Lib.hid (by rw [wipeB_zero hb]; exact hB)
  have HOK := Lib.hid hok
  clear hB hok
  go_enter Tryz.func41, Tryz.ntmps41
  go_wp2_with fail
  go_loopw [7] (fun i wr => ∃ j : Nat, j ≤ n ∧ i = .int .i64 j ∧ BG wr g (wipeB Bs b j) ∧ Chg w wr (fun j => j = g)) (fun i _ => n - (intOf i).toNat)
  case atStart => exact ⟨0, by omega, rfl, B0.out, Chg.refl w _⟩
  case round =>
    obtain ⟨k, hk, rfl, hP, hG⟩ := hrel
    have HP := Lib.hid hP
    have HG := Lib.hid hG
    clear hP hG B0
    by_cases hlt : k < n
    · have hok1 := wipeB_ok HOK.out hb k
      have hb1 : b < (wipeB Bs b k).length := by rw [wipeB_length]; exact hb
      obtain ⟨Cs, hCs⟩ : ∃ Cs, Cs = wipeB Bs b k := ⟨_, rfl⟩
      have hst : Hid (putPage Cs b k NM.ff = wipeB Bs b (k + 1)) := Lib.hid (by rw [hCs]; exact wipeB_step HOK.out hb (by omega))
      rw [← hCs] at HP hok1 hb1
      have hN1 : Cs.length ≤ 40 := by rw [hCs, wipeB_length]; exact hN
      have hk8 : k < 8 := by omega
      have hpl := pageOf_length hok1 hb1 hk8
      have HOK1 := Lib.hid hok1
      clear hok1 hCs
      go_wp2_with fail
      go_loopw [10] (fun i wr => ∃ j : Nat, j ≤ 258 ∧ i = .int .i64 j ∧ BG wr g (putPage Cs b k (NM.wip j (pageOf Cs b k))) ∧ Chg w wr (fun j => j = g)) (fun i _ => 258 - (intOf i).toNat)
      case atStart => exact ⟨0, by omega, rfl, by rw [NM.wip_zero, putPage_self HOK1.out hb1 hk8]; exact HP.out, HG.out⟩
      case round =>
        obtain ⟨j, hj, rfl, hP2, hG2⟩ := hrel
        clear HP HG
        by_cases hlt2 : j < 258
        · have hb2 : b < (putPage Cs b k (NM.wip j (pageOf Cs b k))).length := by rw [putPage_length]; exact hb1
          have e3 := hP2.pbyte hb2 hk8 hlt2 rfl
          have e4 : wr.frozen? ⟨g, b * 2066 + k * 258 + j, none⟩ = false := hP2.free _
          have hp := hP2.pset hb2 hk8 hlt2 255
          rw [pageOf_put HOK1.out hb1 hk8, putPage_two hb1, NM.wip_step (by omega)] at hp
          have hg2 : Chg w (wr.setCell ⟨g, b * 2066 + k * 258 + j, none⟩ (.int .u8 255)) (fun j => j = g) := hG2.trans (Chg.of_grown (r := some g) ⟨rfl, rfl, rfl, by simp, fun i _ hi => Below.heap_setCell wr _ _ i (by simpa using hi)⟩ (fun k e => Option.some.inj e))
          have HPP := Lib.hid hp
          have HG2 := Lib.hid hg2
          clear hP2 hG2 hp hg2
          go_wp2_with fail
          exact ⟨⟨j + 1, by omega, by go_num, HPP.out, HG2.out⟩, by simp [intOf]; omega⟩
        · obtain rfl : j = 258 := by omega
          rw [NM.wip_ff hpl, hst.out] at hP2
          have dj : decide (((258 : Nat) : Int) < 258) = false := by decide
          have HP2 := Lib.hid hP2
          have HG2 := Lib.hid hG2
          clear hP2 hG2
          go_wp2_with fail
          exact ⟨⟨k + 1, by omega, by go_num, HP2.out, HG2.out⟩, by simp [intOf]; omega⟩
    · obtain rfl : k = n := by omega
      go_wp2_with fail
      go_end0
      exact ⟨rfl, HP.out, HG.out⟩
end Go.Proofs.YtdiocjneakfdgaaGreatDoor

/- The program's chip: what stands where; the contracts of the calls that only look. No condition but that the chip is there. -/
namespace Go.Proofs.YtdiocjneakfdgaaGreatDoor
open Go.RowKit
structure Ch where
  bs : List Bk
  out : Bool
  dead : Bool
  dp : Nat
  fp : Int → Bool
  de : Nat
  fe : Int → Bool
  cnt : Nat
/-- where a chip lies: its block, its blocks', its power's, its maps' -/
structure At where
  c : Nat
  g : Nat
  p : Nat
  mp : Option Nat
  me : Option Nat
def Ch.cells (S : Ch) (a : At) (vp ve : Value) : List Value :=
  [.pointer (some ⟨a.p, 0, none⟩), .slice (some ⟨a.g, 0, none⟩) S.bs.length S.bs.length, .bool S.out, .bool S.dead, .int .i64 (S.dp : Int), vp, .int .i64 (S.de : Int), ve, .int .i64 (S.cnt : Int)]
def Ch.live (S : Ch) : Bool := !S.out && !S.dead
structure PChip (w : World) (a : At) (S : Ch) : Prop where
  cells : ∃ vp ve, Blk w a.c 77 (S.cells a vp ve) ∧ Flt w vp a.mp S.dp S.fp ∧ Flt w ve a.me S.de S.fe
  bg : BG w a.g S.bs
  len : 16 ≤ S.bs.length ∧ S.bs.length ≤ 40
  cg : a.c ≠ a.g
  pc : a.p ≠ a.c
  pg : a.p ≠ a.g
  mps : ∀ b, a.mp = some b → b ≠ a.c ∧ b ≠ a.g ∧ b ≠ a.p
  mes : ∀ b, a.me = some b → b ≠ a.c ∧ b ≠ a.g ∧ b ≠ a.p
  mm : ∀ b, a.mp = some b → a.me ≠ some b
/-- few acts so far -/
def Ch.few (S : Ch) (n : Nat) : Prop := S.dp ≤ n ∧ S.de ≤ n ∧ S.cnt ≤ n
/-- the chip's own blocks -/
def At.own (a : At) (k : Nat) : Prop := k = a.c ∨ k = a.g ∨ a.mp = some k ∨ a.me = some k
section
variable {w w' : World} {a : At} {S : Ch}
theorem PChip.chg {T : Nat → Prop} (h : PChip w a S) (hc : Chg w w' T) (hT : ∀ k, a.own k → ¬ T k) : PChip w' a S := by
  obtain ⟨⟨vp, ve, h1, h2, h3⟩, hb, r1, r3, r4, r5, r6, r7, r8⟩ := h
  exact ⟨⟨vp, ve, h1.chg hc (hT _ (.inl rfl)), h2.chg hc (fun b e => hT b (.inr (.inr (.inl e)))), h3.chg hc (fun b e => hT b (.inr (.inr (.inr e))))⟩, hb.chg hc (hT _ (.inr (.inl rfl))), r1, r3, r4, r5, r6, r7, r8⟩
theorem PChip.after (h : PChip w a S) (hb : Below w.heap.size w w') : PChip w' a S := h.chg (T := fun _ => False) (Chg.of_below hb) (fun _ _ => id)
theorem PChip.alloc (h : PChip w a S) (o : Obj) : PChip (w.alloc o) a S := h.after ((Below.refl _ _).alloc (Nat.le_refl _) o)
theorem PChip.drew (h : PChip w a S) : PChip w.drew a S := h.after (Below.refl _ _).drew
theorem PChip.own_lt (h : PChip w a S) : ∀ k, a.own k → k < w.heap.size := fun k hk => by
  obtain ⟨⟨vp, ve, h1, h2, h3⟩, hb, _⟩ := h
  rcases hk with rfl | rfl | e | e
  · exact h1.lt
  · exact hb.lt
  · exact h2.lt k e
  · exact h3.lt k e
theorem PChip.cell (h : PChip w a S) : w.cell? ⟨a.c, 0, none⟩ = some (.pointer (some ⟨a.p, 0, none⟩)) ∧ w.cell? ⟨a.c, 1, none⟩ = some (.slice (some ⟨a.g, 0, none⟩) S.bs.length S.bs.length) ∧ w.cell? ⟨a.c, 2, none⟩ = some (.bool S.out) ∧ w.cell? ⟨a.c, 3, none⟩ = some (.bool S.dead) ∧ w.cell? ⟨a.c, 8, none⟩ = some (.int .i64 (S.cnt : Int)) := by
  obtain ⟨vp, ve, h1, _, _⟩ := h.cells
  exact ⟨h1.cell 0, h1.cell 1, h1.cell 2, h1.cell 3, h1.cell 8⟩
end
theorem live_any (a : At) (S : Ch) (w : World) (h : PChip w a S) : Calls Tryz.prog 118 #[.pointer (some ⟨a.c, 0, none⟩)] w fun e w' => e = .returned (.bool S.live) ∧ w = w' := by
  obtain ⟨_, _, e2, e3, _⟩ := h.cell
  unfold Ch.live
  obtain ⟨o, ho⟩ : ∃ o, o = S.out := ⟨_, rfl⟩
  obtain ⟨d, hd⟩ : ∃ d, d = S.dead := ⟨_, rfl⟩
  rw [← ho] at e2 ⊢
  rw [← hd] at e3 ⊢
  clear h ho hd
  cases o
  · go_enter Tryz.func118, Tryz.ntmps118
    go_wp2
    go_ret
    exact ⟨rfl, rfl⟩
  · go_enter Tryz.func118, Tryz.ntmps118
    go_wp2
    go_ret
    exact ⟨rfl, rfl⟩
theorem chipcount_any (a : At) (S : Ch) (w : World) (h : PChip w a S) : Calls Tryz.prog 49 #[.pointer (some ⟨a.c, 0, none⟩)] w fun e w' => e = .returned (.int .i64 (S.cnt : Int)) ∧ w = w' := by
  obtain ⟨_, _, _, _, e8⟩ := h.cell
  clear h
  go_enter Tryz.func49, Tryz.ntmps49
  go_wp2
  go_ret
  exact ⟨rfl, rfl⟩
theorem lacks_any (a : At) (S : Ch) (b : Int) (w : World) (h : PChip w a S) : Calls Tryz.prog 40 #[.pointer (some ⟨a.c, 0, none⟩), .int .i64 b] w fun e w' => e = .returned (.bool (decide (b < 0 ∨ (S.bs.length : Int) ≤ b))) ∧ w = w' := by
  obtain ⟨_, e1, _, _, _⟩ := h.cell
  clear h
  by_cases c1 : b < 0
  · have d1 : decide (b < 0) = true := by simp [c1]
    rw [decide_eq_true (.inl c1)]
    clear c1
    go_enter Tryz.func40, Tryz.ntmps40
    go_wp2
    go_ret
    exact ⟨rfl, rfl⟩
  · have d1 : decide (b < 0) = false := by simp [c1]
    obtain ⟨d, hd⟩ : ∃ d, d = decide ((S.bs.length : Int) ≤ b) := ⟨_, rfl⟩
    have hh : decide (b < 0 ∨ (S.bs.length : Int) ≤ b) = d := by
      rw [hd]
      by_cases c2 : (S.bs.length : Int) ≤ b
      · rw [decide_eq_true c2, decide_eq_true (.inr c2)]
      · rw [decide_eq_false c2, decide_eq_false (fun h => h.elim c1 c2)]
    rw [hh]
    have hd' := hd.symm
    clear c1 hh hd
    go_enter Tryz.func40, Tryz.ntmps40
    go_wp2
    go_ret
    exact ⟨rfl, rfl⟩
set_option maxHeartbeats 1000000 in
theorem lacksPage_any (a : At) (S : Ch) (b k : Int) (w : World) (h : PChip w a S) : Calls Tryz.prog 119 #[.pointer (some ⟨a.c, 0, none⟩), .int .i64 b, .int .i64 k] w fun e w' => e = .returned (.bool (decide (b < 0 ∨ (S.bs.length : Int) ≤ b ∨ k < 0 ∨ 7 < k))) ∧ w = w' := by
  have k1 := lacks_any a S b w h
  clear h
  by_cases c1 : b < 0 ∨ (S.bs.length : Int) ≤ b
  · rw [decide_eq_true c1] at k1
    rw [decide_eq_true (by omega)]
    clear c1
    go_enter Tryz.func119, Tryz.ntmps119
    go_wp2_with fail
    ((with_reducible refine k1.mono ?_); rintro e w' ⟨rfl, rfl⟩)
    go_wp2
    go_ret
    exact ⟨rfl, rfl⟩
  · rw [decide_eq_false c1] at k1
    by_cases c2 : k < 0
    · have d2 : decide (k < 0) = true := by simp [c2]
      rw [decide_eq_true (by omega)]
      clear c1 c2
      go_enter Tryz.func119, Tryz.ntmps119
      go_wp2_with fail
      ((with_reducible refine k1.mono ?_); rintro e w' ⟨rfl, rfl⟩)
      go_wp2
      go_ret
      exact ⟨rfl, rfl⟩
    · have d2 : decide (k < 0) = false := by simp [c2]
      by_cases c3 : 7 < k
      · have d3 : decide ((8 : Int) ≤ k) = true := by simp; omega
        rw [decide_eq_true (by omega)]
        clear c1 c2 c3
        go_enter Tryz.func119, Tryz.ntmps119
        go_wp2_with fail
        ((with_reducible refine k1.mono ?_); rintro e w' ⟨rfl, rfl⟩)
        go_wp2
        go_ret
        exact ⟨rfl, rfl⟩
      · have d3 : decide ((8 : Int) ≤ k) = false := by simp; omega
        rw [decide_eq_false (by omega)]
        clear c1 c2 c3
        go_enter Tryz.func119, Tryz.ntmps119
        go_wp2_with fail
        ((with_reducible refine k1.mono ?_); rintro e w' ⟨rfl, rfl⟩)
        go_wp2
        go_ret
        exact ⟨rfl, rfl⟩
set_option maxHeartbeats 1000000 in
theorem refuses_any (a : At) (S : Ch) (s : NM.Pwr) (b k : Int) (w : World) (h : PChip w a S) (hp : PPow w a.p s) : Calls Tryz.prog 88 #[.pointer (some ⟨a.c, 0, none⟩), .int .i64 b, .int .i64 k] w fun e w' => e = .returned (.int .i64 (NM.may s.off S.live S.bs.length b k)) ∧ w = w' := by
  have k1 := off_any a.p s w hp
  have k2 := live_any a S w h
  have k3 := lacksPage_any a S b k w h
  obtain ⟨e0, _, _, _, _⟩ := h.cell
  obtain ⟨o, ho⟩ : ∃ o, o = s.off := ⟨_, rfl⟩
  obtain ⟨l, hl⟩ : ∃ l, l = S.live := ⟨_, rfl⟩
  rw [← ho] at k1 ⊢
  rw [← hl] at k2 ⊢
  clear h hp ho hl
  unfold NM.may
  cases o
  · cases l
    · go_enter Tryz.func88, Tryz.ntmps88
      go_wp2_with fail
      ((with_reducible refine k1.mono ?_); rintro e w' ⟨rfl, rfl⟩)
      go_wp2_with fail
      ((with_reducible refine k2.mono ?_); rintro e w' ⟨rfl, rfl⟩)
      go_wp2
      go_ret
      exact ⟨rfl, rfl⟩
    · by_cases c : b < 0 ∨ (S.bs.length : Int) ≤ b ∨ k < 0 ∨ 7 < k
      · rw [decide_eq_true c] at k3
        rw [if_neg (by simp), if_pos rfl, if_pos c]
        clear c
        go_enter Tryz.func88, Tryz.ntmps88
        go_wp2_with fail
        ((with_reducible refine k1.mono ?_); rintro e w' ⟨rfl, rfl⟩)
        go_wp2_with fail
        ((with_reducible refine k2.mono ?_); rintro e w' ⟨rfl, rfl⟩)
        go_wp2_with fail
        ((with_reducible refine k3.mono ?_); rintro e w' ⟨rfl, rfl⟩)
        go_wp2
        go_ret
        exact ⟨rfl, rfl⟩
      · rw [decide_eq_false c] at k3
        rw [if_neg (by simp), if_pos rfl, if_neg c]
        clear c
        go_enter Tryz.func88, Tryz.ntmps88
        go_wp2_with fail
        ((with_reducible refine k1.mono ?_); rintro e w' ⟨rfl, rfl⟩)
        go_wp2_with fail
        ((with_reducible refine k2.mono ?_); rintro e w' ⟨rfl, rfl⟩)
        go_wp2_with fail
        ((with_reducible refine k3.mono ?_); rintro e w' ⟨rfl, rfl⟩)
        go_wp2
        go_ret
        exact ⟨rfl, rfl⟩
  · go_enter Tryz.func88, Tryz.ntmps88
    go_wp2_with fail
    ((with_reducible refine k1.mono ?_); rintro e w' ⟨rfl, rfl⟩)
    go_wp2
    go_ret
    exact ⟨rfl, rfl⟩
end Go.Proofs.YtdiocjneakfdgaaGreatDoor

