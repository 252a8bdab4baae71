/- Several texts of the proof, joined: what each has is said at its head. -/
import Derived.Test.YtaafelhjcmgkdaaGreatDoorQDiskE
import Derived.Test.YtaafelhjcmgkdaaGreatDoorQNandN
/- The document's disk: its blocks' cells; the contracts of Blank and There. No condition but that it is there. -/
namespace Go.Proofs.YtaafelhjcmgkdaaGreatDoor
open Go.RowKit
/-- a block of the document's disk -/
structure RB where
  pg : List (List UInt8)
  sure : List Bool
  nx : Nat
  torn : Bool
def bls (L : List Bool) : List Value := L.map .bool
def RB.row (b : RB) : List Value := bv b.pg.flatten ++ (bls b.sure ++ [.int .i64 (b.nx : Int), .bool b.torn])
structure RB.ok (b : RB) : Prop where
  p8 : b.pg.length = 8
  pl : ∀ l ∈ b.pg, l.length = 258
  s8 : b.sure.length = 8
def RB.zero : RB := ⟨List.replicate 8 pzeros, List.replicate 8 false, 0, false⟩
def RB.blank : RB := ⟨List.replicate 8 NM.ff, List.replicate 8 true, 0, false⟩
theorem RB.zero_ok : RB.zero.ok := ⟨rfl, fun l hl => by rw [List.eq_of_mem_replicate hl]; exact pzeros_length, rfl⟩
theorem RB.blank_ok : RB.blank.ok := ⟨rfl, fun l hl => by rw [List.eq_of_mem_replicate hl]; exact NM.ff_length, rfl⟩
section
variable {b : RB}
theorem RB.flat (h : b.ok) : (bv b.pg.flatten).length = 2064 := by rw [bv_length, NM.flat_length _ h.pl, h.p8]
theorem RB.row_length (h : b.ok) : b.row.length = 2074 := by
  unfold RB.row bls
  rw [List.length_append, RB.flat h, List.length_append, List.length_map, h.s8]
  rfl
theorem RB.row_nx (h : b.ok) : b.row[2072]? = some (.int .i64 (b.nx : Int)) := by
  unfold RB.row
  rw [List.getElem?_append_right (by rw [RB.flat h]; omega), RB.flat h, List.getElem?_append_right (by unfold bls; rw [List.length_map, h.s8]; omega)]
  unfold bls
  rw [List.length_map, h.s8]
  rfl
theorem RB.row_torn (h : b.ok) : b.row[2073]? = some (.bool b.torn) := by
  unfold RB.row
  rw [List.getElem?_append_right (by rw [RB.flat h]; omega), RB.flat h, List.getElem?_append_right (by unfold bls; rw [List.length_map, h.s8]; omega)]
  unfold bls
  rw [List.length_map, h.s8]
  rfl
theorem RB.row_sure (h : b.ok) {k : Nat} (hk : k < 8) : b.row[2064 + k]? = some (.bool (b.sure.getD k false)) := by
  unfold RB.row
  rw [List.getElem?_append_right (by rw [RB.flat h]; omega), RB.flat h, List.getElem?_append_left (by unfold bls; rw [List.length_map, h.s8]; omega), show 2064 + k - 2064 = k by omega]
  unfold bls
  rw [List.getElem?_map, List.getElem?_eq_getElem (by rw [h.s8]; exact hk), List.getD_eq_getElem?_getD, List.getElem?_eq_getElem (by rw [h.s8]; exact hk)]
  rfl
theorem RB.row_page (h : b.ok) {k : Nat} (hk : k < 8) : (b.row.drop (k * 258)).take 258 = bv (b.pg.getD k []) := by
  have hp : k < b.pg.length := by rw [h.p8]; exact hk
  have hl : (b.pg.getD k []).length = 258 := by
    rw [List.getD_eq_getElem?_getD, List.getElem?_eq_getElem hp]
    exact h.pl _ (List.getElem_mem _)
  apply List.ext_getElem?
  intro i
  by_cases c : i < 258
  · rw [List.getElem?_take_of_lt c, List.getElem?_drop]
    unfold RB.row
    rw [List.getElem?_append_left (by rw [RB.flat h]; omega), bv, List.getElem?_map, NM.flat_get (n := 258) _ h.pl k hp i c, bv, List.getElem?_map, List.getD_eq_getElem?_getD, List.getElem?_eq_getElem hp]
    rfl
  · rw [List.getElem?_eq_none (by rw [List.length_take]; omega), List.getElem?_eq_none (by rw [bv_length, hl]; omega)]
theorem RB.one : ∀ v ∈ b.row, v.oneCell' = true := fun v hv => by
  unfold RB.row at hv
  rcases List.mem_append.1 hv with h | h
  · exact bv_one h
  · rcases List.mem_append.1 h with h | h
    · obtain ⟨x, _, rfl⟩ := List.mem_map.1 h; rfl
    · rcases List.mem_cons.1 h with rfl | h
      · rfl
      · rw [List.mem_singleton.1 h]; rfl
end
def RB.setPage (b : RB) (k : Nat) (l : List UInt8) : RB := { b with pg := b.pg.set k l }
def RB.setSure (b : RB) (k : Nat) (s : Bool) : RB := { b with sure := b.sure.set k s }
def RB.setNx (b : RB) (n : Nat) : RB := { b with nx := n }
def RB.setTorn (b : RB) (t : Bool) : RB := { b with torn := t }
section
variable {b : RB}
theorem RB.setPage_ok (h : b.ok) (k : Nat) {l : List UInt8} (hl : l.length = 258) : (b.setPage k l).ok := ⟨by show (b.pg.set k l).length = 8; rw [List.length_set]; exact h.p8, NM.set_all h.pl k hl, h.s8⟩
theorem RB.setSure_ok (h : b.ok) (k : Nat) (s : Bool) : (b.setSure k s).ok := ⟨h.p8, h.pl, by show (b.sure.set k s).length = 8; rw [List.length_set]; exact h.s8⟩
theorem RB.setNx_ok (h : b.ok) (n : Nat) : (b.setNx n).ok := ⟨h.p8, h.pl, h.s8⟩
theorem RB.setTorn_ok (h : b.ok) (t : Bool) : (b.setTorn t).ok := ⟨h.p8, h.pl, h.s8⟩
theorem RB.set_nx (h : b.ok) (n : Nat) : b.row.set 2072 (.int .i64 (n : Int)) = (b.setNx n).row := by
  unfold RB.row RB.setNx
  have hs : (bls b.sure).length = 8 := by unfold bls; rw [List.length_map, h.s8]
  rw [List.set_append_right _ _ (by rw [RB.flat h]; omega), RB.flat h, List.set_append_right _ _ (by rw [hs]; omega), hs]
  rfl
theorem RB.set_torn (h : b.ok) (t : Bool) : b.row.set 2073 (.bool t) = (b.setTorn t).row := by
  unfold RB.row RB.setTorn
  have hs : (bls b.sure).length = 8 := by unfold bls; rw [List.length_map, h.s8]
  rw [List.set_append_right _ _ (by rw [RB.flat h]; omega), RB.flat h, List.set_append_right _ _ (by rw [hs]; omega), hs]
  rfl
theorem RB.set_sure (h : b.ok) {k : Nat} (hk : k < 8) (s : Bool) : b.row.set (2064 + k) (.bool s) = (b.setSure k s).row := by
  unfold RB.row RB.setSure
  have hs : (bls b.sure).length = 8 := by unfold bls; rw [List.length_map, h.s8]
  rw [List.set_append_right _ _ (by rw [RB.flat h]; omega), RB.flat h, show 2064 + k - 2064 = k by omega, List.set_append_left _ _ (by rw [hs]; exact hk)]
  unfold bls
  rw [List.map_set]
theorem RB.row_lo (h : b.ok) {i : Nat} (hi : i < 2064) : b.row[i]? = (bv (b.pg.getD (i / 258) []))[i % 258]? := by
  have h1 := RB.row_page h (k := i / 258) (by omega)
  rw [← h1, List.getElem?_take_of_lt (Nat.mod_lt _ (by omega)), List.getElem?_drop, show i / 258 * 258 + i % 258 = i by omega]
theorem RB.row_hi (h : b.ok) {i : Nat} (hi : 2064 ≤ i) : b.row[i]? = (bls b.sure ++ [.int .i64 (b.nx : Int), .bool b.torn])[i - 2064]? := by
  unfold RB.row
  rw [List.getElem?_append_right (by rw [RB.flat h]; exact hi), RB.flat h]
theorem segSet_get {cs vs : List Value} {i : Nat} (j : Nat) (hi : i + vs.length ≤ cs.length) : (segSet cs i vs)[j]? = if i ≤ j ∧ j < i + vs.length then vs[j - i]? else cs[j]? := by
  unfold segSet
  have ht : (cs.take i).length = i := by rw [List.length_take]; omega
  rw [List.append_assoc]
  by_cases c1 : j < i
  · rw [List.getElem?_append_left (by omega), List.getElem?_take_of_lt c1, if_neg (by omega)]
  · rw [List.getElem?_append_right (by omega), ht]
    by_cases c2 : j < i + vs.length
    · rw [List.getElem?_append_left (by omega), if_pos (by omega)]
    · rw [List.getElem?_append_right (by omega), List.getElem?_drop, if_neg (by omega), show i + vs.length + (j - i - vs.length) = j by omega]
theorem RB.set_page (h : b.ok) {k : Nat} (hk : k < 8) {l : List UInt8} (hl : l.length = 258) : segSet b.row (k * 258) (bv l) = (b.setPage k l).row := by
  have hok := RB.setPage_ok h k hl
  have hrl := RB.row_length h
  have hbl : (bv l).length = 258 := by rw [bv_length, hl]
  have hpk : ∀ i, (b.setPage k l).pg.getD i [] = if i = k then l else b.pg.getD i [] := fun i => getD_setP (by rw [h.p8]; exact hk) l
  apply List.ext_getElem?
  intro i
  rw [segSet_get i (by omega), hbl]
  rcases Nat.lt_or_ge i 2064 with c | c
  · rw [RB.row_lo h c, RB.row_lo hok c, hpk]
    by_cases c2 : k * 258 ≤ i ∧ i < k * 258 + 258
    · rw [if_pos c2, if_pos (by omega), show i - k * 258 = i % 258 by omega]
    · rw [if_neg c2, if_neg (by omega)]
  · rw [if_neg (by omega), RB.row_hi h c, RB.row_hi hok c]
    rfl
end
/-- in block g lie the blocks -/
structure RG (w : World) (g : Nat) (Bs : List RB) : Prop where
  blk : Blk w g 58 (Bs.map RB.row).flatten
  oks : ∀ b ∈ Bs, b.ok
section
variable {w w' : World} {g : Nat} {Bs : List RB}
theorem RG.lt (h : RG w g Bs) : g < w.heap.size := h.blk.lt
theorem RG.after (h : RG w g Bs) (hb : Below w.heap.size w w') : RG w' g Bs := ⟨h.blk.after hb, h.oks⟩
theorem RG.chg {T : Nat → Prop} (h : RG w g Bs) (hc : Chg w w' T) (hT : ¬ T g) : RG w' g Bs := ⟨h.blk.chg hc hT, h.oks⟩
theorem RG.rows (h : RG w g Bs) : ∀ l ∈ Bs.map RB.row, l.length = 2074 := fun l hl => by
  obtain ⟨b, hb, rfl⟩ := List.mem_map.1 hl
  exact RB.row_length (h.oks b hb)
theorem RG.len (h : RG w g Bs) : (Bs.map RB.row).flatten.length = Bs.length * 2074 := by
  rw [NM.flat_length _ h.rows, List.length_map]
theorem RG.at_ (h : RG w g Bs) {b : Nat} (hb : b < Bs.length) : (Bs[b]).ok := h.oks _ (List.getElem_mem hb)
theorem RG.cell (h : RG w g Bs) {b : Nat} (hb : b < Bs.length) {i : Nat} (hi : i < 2074) : w.cell? ⟨g, b * 2074 + i, none⟩ = (Bs[b]).row[i]? := by
  rw [h.blk.cell, NM.flat_get (n := 2074) _ h.rows b (by simpa using hb) i hi]
  simp
theorem RG.seg (h : RG w g Bs) {b : Nat} (hb : b < Bs.length) : ((Bs.map RB.row).flatten.drop (b * 2074)).take 2074 = (Bs[b]).row := by
  have hl := RB.row_length (h.at_ hb)
  apply List.ext_getElem?
  intro i
  by_cases c : i < 2074
  · rw [List.getElem?_take_of_lt c, List.getElem?_drop, NM.flat_get (n := 2074) _ h.rows b (by simpa using hb) i c]
    simp
  · rw [List.getElem?_eq_none (by rw [List.length_take]; omega), List.getElem?_eq_none (by omega)]
theorem RG.segSet (h : RG w g Bs) {b : Nat} (hb : b < Bs.length) {o : Nat} {vs : List Value} {B' : RB} (hr : Go.Proofs.YtaafelhjcmgkdaaGreatDoor.segSet (Bs[b]).row o vs = B'.row) (ho : o + vs.length ≤ 2074) (hB : B'.ok) : Go.Proofs.YtaafelhjcmgkdaaGreatDoor.segSet (Bs.map RB.row).flatten (b * 2074 + o) vs = ((Bs.set b B').map RB.row).flatten := by
  have hrl := RB.row_length (h.at_ hb)
  have hL := h.len
  have hrows2 : ∀ l ∈ (Bs.set b B').map RB.row, l.length = 2074 := fun l hl => by
    obtain ⟨x, hx, rfl⟩ := List.mem_map.1 hl
    rcases List.mem_or_eq_of_mem_set hx with q | q
    · exact RB.row_length (h.oks x q)
    · rw [q]; exact RB.row_length hB
  have hmul : (b + 1) * 2074 ≤ Bs.length * 2074 := Nat.mul_le_mul_right _ hb
  have hmul2 : (b + 1) * 2074 = b * 2074 + 2074 := by rw [Nat.succ_mul]
  have hseg := segSet_length (cs := (Bs.map RB.row).flatten) (i := b * 2074 + o) (vs := vs) (by omega)
  have hL2 : ((Bs.set b B').map RB.row).flatten.length = Bs.length * 2074 := by rw [NM.flat_length _ hrows2, List.length_map, List.length_set]
  apply List.ext_getElem?
  intro j
  rw [segSet_get j (by omega)]
  by_cases cj : j < Bs.length * 2074
  · have hb' : j / 2074 < Bs.length := by omega
    have hm : j % 2074 < 2074 := Nat.mod_lt _ (by omega)
    have e0 : j = j / 2074 * 2074 + j % 2074 := by omega
    have r1 := NM.flat_get (n := 2074) _ h.rows (j / 2074) (by simpa using hb') (j % 2074) hm
    have r2 := NM.flat_get (n := 2074) _ hrows2 (j / 2074) (by simpa using hb') (j % 2074) hm
    rw [← e0] at r1 r2
    rw [r1, r2]
    simp only [List.getElem_map]
    by_cases cb : j / 2074 = b
    · have e3 : (Bs.set b B')[j / 2074]'(by rw [List.length_set]; exact hb') = B' := by simp only [cb]; rw [List.getElem_set_self]
      rw [e3, ← hr, segSet_get _ (by omega)]
      have e4 : (Bs[j / 2074]'hb') = Bs[b] := by simp only [cb]
      rw [e4]
      by_cases c3 : b * 2074 + o ≤ j ∧ j < b * 2074 + o + vs.length
      · rw [if_pos c3, if_pos (by omega)]
        congr 1
        omega
      · rw [if_neg c3, if_neg (by omega)]
    · have e3 : (Bs.set b B')[j / 2074]'(by rw [List.length_set]; exact hb') = Bs[j / 2074]'hb' := List.getElem_set_ne (by omega) _
      rw [e3, if_neg (by omega)]
  · rw [if_neg (by omega), List.getElem?_eq_none (l := (List.map RB.row Bs).flatten) (by omega), List.getElem?_eq_none (by omega)]
theorem RG.stored (h : RG w g Bs) {b : Nat} {B' : RB} (hB : B'.ok) (hb : Blk w' g 58 ((Bs.set b B').map RB.row).flatten) : RG w' g (Bs.set b B') := ⟨hb, fun x hx => by
  rcases List.mem_or_eq_of_mem_set hx with q | q
  · exact h.oks x q
  · rw [q]; exact hB⟩
end
/-- in block m lies the document's disk, its blocks in block g -/
structure RD (w : World) (m g : Nat) (Bs : List RB) : Prop where
  hd : Blk w m 61 [.slice (some ⟨g, 0, none⟩) Bs.length Bs.length]
  rg : RG w g Bs
  ne : m ≠ g
section
variable {w w' : World} {m g : Nat} {Bs : List RB}
theorem RD.after (h : RD w m g Bs) (hb : Below w.heap.size w w') : RD w' m g Bs := ⟨h.hd.after hb, h.rg.after hb, h.ne⟩
theorem RD.chg {T : Nat → Prop} (h : RD w m g Bs) (hc : Chg w w' T) (hm : ¬ T m) (hg : ¬ T g) : RD w' m g Bs := ⟨h.hd.chg hc hm, h.rg.chg hc hg, h.ne⟩
theorem RD.sl (h : RD w m g Bs) : w.cell? ⟨m, 0, none⟩ = some (.slice (some ⟨g, 0, none⟩) Bs.length Bs.length) := h.hd.cell 0
theorem RD.set (h : RD w m g Bs) {b : Nat} {B' : RB} (hB : B'.ok) (hb : Blk w' g 58 ((Bs.set b B').map RB.row).flatten) (gr : w.grownBy w' (some g)) : RD w' m g (Bs.set b B') :=
  ⟨by rw [List.length_set]; exact h.hd.grown gr (fun e => h.ne (Option.some.inj e)), h.rg.stored hB hb, h.ne⟩
set_option maxHeartbeats 4000000 in
theorem there_any (h : RD w m g Bs) (hl : Bs.length = 18) (b k : Int) : Calls Tryz.prog 11 #[.pointer (some ⟨m, 0, none⟩), .int .i64 b, .int .i64 k] w fun e w' => e = .returned (.bool (there 24 b k)) ∧ w = w' := by
  have c0 := h.sl
  rw [hl] at c0
  unfold there
  clear h hl
  obtain ⟨q1, hq1⟩ : ∃ q, q = decide (0 ≤ b) := ⟨_, rfl⟩
  obtain ⟨q2, hq2⟩ : ∃ q, q = decide (b < 18) := ⟨_, rfl⟩
  obtain ⟨q3, hq3⟩ : ∃ q, q = decide (0 ≤ k) := ⟨_, rfl⟩
  obtain ⟨q4, hq4⟩ : ∃ q, q = decide (k < 8) := ⟨_, rfl⟩
  have he : decide (0 ≤ b ∧ b < ((24 - 6 : Nat) : Int) ∧ 0 ≤ k ∧ k < 8) = (q1 && (q2 && (q3 && q4))) := by
    rw [hq1, hq2, hq3, hq4, ← Bool.decide_and, ← Bool.decide_and, ← Bool.decide_and]
    rfl
  rw [he]
  have h1 := hq1.symm
  have h2 := hq2.symm
  have h3 := hq3.symm
  have h4 := hq4.symm
  clear hq1 hq2 hq3 hq4 he
  cases q1 <;> cases q2 <;> cases q3 <;> cases q4 <;>
  (go_enter Tryz.func11, Tryz.ntmps11
   go_wp2_with fail
   go_ret
   exact ⟨rfl, rfl⟩)
end
def ffTo (j : Nat) : List UInt8 := List.replicate j 255 ++ List.replicate (258 - j) 0
theorem ffTo_step {j : Nat} (h : j < 258) : (ffTo j).set j 255 = ffTo (j + 1) := by
  unfold ffTo
  rw [List.set_append_right _ _ (by simp), List.length_replicate, Nat.sub_self, show 258 - j = (258 - (j + 1)) + 1 by omega, List.replicate_succ, List.set_cons_zero, List.replicate_succ', List.append_assoc]
  rfl
theorem ffTo_length {j : Nat} (h : j ≤ 258) : (ffTo j).length = 258 := by
  unfold ffTo
  rw [List.length_append, List.length_replicate, List.length_replicate]
  omega
theorem ffTo_zero : ffTo 0 = pzeros := rfl
theorem ffTo_all : ffTo 258 = NM.ff := by
  unfold ffTo
  rw [Nat.sub_self, List.replicate_zero, List.append_nil]
  rfl
set_option maxRecDepth 100000 in
theorem buildPg (w : World) : (Instr.build 54 #[]).run Tryz.prog w = .ok (.agg (cl pzeros)) w := by
  have h := zeroPage w
  unfold Instr.build
  simp only [Sem.run_bind, h, Result.andThen_ok, run_underlying Tryz.underlying54]
  rfl
set_option maxRecDepth 100000 in
set_option maxHeartbeats 4000000 in
theorem rblank_any (w : World) : Calls Tryz.prog 29 #[] w fun e w' => e = .returned (.agg (cl NM.ff)) ∧ Below w.heap.size w w' := by
  have z := zeroPage
  have bp := buildPg
  have b0 := phb_two w pzeros pzeros
  have R0 := parr_one w pzeros_length pzeros
  have R1 := parr_two w pzeros pzeros_length
  have HB := Lib.hid b0
  have HFL := Lib.hid NM.ff_length
  clear b0
  go_enter Tryz.func29, Tryz.ntmps29
  go_wp2_with (with_reducible refine wpl_pstore (.tmp 1) (.tmp 3) rfl rfl R1.out rfl pzeros_length rfl ?_; intro w3 N3 g3 e3)
  have M3 := R0.out.grown g3 (by omega)
  have B3 : Below w.heap.size w w3 := HB.out.grown g3 (by simp; omega) (fun k e => by cases e; omega)
  have HN := Lib.hid N3
  have HM := Lib.hid M3
  have HB3 := Lib.hid B3
  clear R0 R1 HB N3 M3 B3 g3
  go_loopw [2] (fun i wr => ∃ j : Nat, j ≤ 258 ∧ i = .int .i64 j ∧ PArr wr (w.heap.size + 1) (ffTo j) ∧ PArr wr w.heap.size pzeros ∧ Below w.heap.size w wr) (fun i _ => 258 - (intOf i).toNat)
  case atStart => exact ⟨0, by omega, rfl, HN.out, HM.out, HB3.out⟩
  case round =>
    rename_i wr
    obtain ⟨j, hj, rfl, hN, hM, hB⟩ := hrel
    clear HN HM HB3
    by_cases hlt : j < 258
    · have HN := Lib.hid hN
      have HM := Lib.hid hM
      have HB := Lib.hid hB
      have hj2 : (j : Int) < 258 := by omega
      clear hN hM hB
      go_wp2_with (refine wpl_pput (.tmp 9) (.const (.int .u8 255)) rfl rfl HN.out j hlt 255 rfl rfl ?_; intro w4 N4 g4)
      rw [ffTo_step hlt] at N4
      exact ⟨⟨j + 1, by omega, by go_num, N4, HM.out.grown g4 (by omega), HB.out.grown g4 HB.out.size (fun k e => by cases e; omega)⟩, by simp [intOf]; omega⟩
    · obtain rfl : j = 258 := by omega
      rw [ffTo_all] at hN
      have HB := Lib.hid hB
      clear hB
      go_wp2_with (first
        | (with_reducible refine wpl_pload (.tmp 1) rfl rfl hN rfl ?_)
        | (with_reducible refine wpl_pstore (.tmp 0) (.tmp 10) rfl rfl hM rfl HFL.out rfl ?_; intro w5 N5 g5 e5))
      refine bodyPost_ret (pret1' rfl _ N5 rfl) rfl ?_
      exact ⟨rfl, HB.out.grown g5 HB.out.size (fun k e => by cases e; omega)⟩
end Go.Proofs.YtaafelhjcmgkdaaGreatDoor

/- The document's disk: facts. No condition but that it is there. -/
namespace Go.Proofs.YtaafelhjcmgkdaaGreatDoor
open Go.RowKit
def zRB : Value := .agg ⟨List.replicate 2064 (.int .u8 0) ++ (List.replicate 8 (.bool false) ++ [.int .i64 0, .bool false])⟩
theorem infoRB : (Tryz.prog.info? 58).map (fun i => (i.zero, i.size, i.bytes)) = some (some zRB, 2074, 2088) := by kernel_rfl
theorem zRB_cells : zRB = .agg RB.zero.row.toArray := by
  have e : bv (List.replicate 8 pzeros).flatten = List.replicate 2064 (.int .u8 0) := by
    unfold pzeros
    rw [List.flatten_replicate_replicate]
    exact List.map_replicate
  have e2 : bls (List.replicate 8 false) = List.replicate 8 (.bool false) := List.map_replicate
  unfold RB.row RB.zero
  rw [e, e2]
  rfl
theorem zeroRB (w : World) : (zeroValue 58).run Tryz.prog w = .ok (.agg RB.zero.row.toArray) w := by
  obtain ⟨i, hi, hh⟩ := Option.map_eq_some_iff.1 infoRB
  have e1 : i.zero = some zRB := congrArg (·.1) hh
  rw [← zRB_cells]
  simp [zeroValue, typeInfo, hi, e1]
theorem sizeRB (w : World) : (sizeOf 58).run Tryz.prog w = .ok 2074 w := by kernel_rfl
theorem aggRB (w : World) : (isAgg 58).run Tryz.prog w = .ok true w := by kernel_rfl
theorem sizePgd (w : World) : (sizeOf 54).run Tryz.prog w = .ok 258 w := by kernel_rfl
theorem aggPgd (w : World) : (isAgg 54).run Tryz.prog w = .ok true w := by kernel_rfl
theorem rbFields : ∃ (fields : Array Field) (ps : Array (Nat × Nat)), Tryz.prog.underlying 58 = some (.struct fields) ∧ ∀ w, (fields.mapM fun (f : Field) => do pure (f.offset, ← sizeOf f.type)).run Tryz.prog w = .ok ps w := ⟨_, #[(0, 2064), (2064, 8), (2072, 1), (2073, 1)], Tryz.underlying58, fun w => by kernel_rfl⟩
theorem buildRB (w : World) : (Instr.build 58 #[]).run Tryz.prog w = .ok (.agg RB.zero.row.toArray) w := by
  obtain ⟨fields, ps, h1, h2⟩ := rbFields
  unfold Instr.build
  simp only [Sem.run_bind, zeroRB, Result.andThen_ok, run_underlying h1, h2]
  rfl
theorem cl_bv (L : List UInt8) : (cl L : Array Value) = (bv L).toArray := by
  apply Array.toList_inj.1
  rw [cl_list]
/-- the first j pages are blank, and sure -/
def laidR (j : Nat) : RB := ⟨List.replicate j NM.ff ++ List.replicate (8 - j) pzeros, List.replicate j true ++ List.replicate (8 - j) false, 0, false⟩
theorem laidR_ok {j : Nat} (h : j ≤ 8) : (laidR j).ok := by
  refine ⟨?_, fun l hl => ?_, ?_⟩
  · show (List.replicate j NM.ff ++ List.replicate (8 - j) pzeros).length = 8
    rw [List.length_append, List.length_replicate, List.length_replicate]; omega
  · rcases List.mem_append.1 hl with q | q
    · rw [List.eq_of_mem_replicate q]; exact NM.ff_length
    · rw [List.eq_of_mem_replicate q]; exact pzeros_length
  · show (List.replicate j true ++ List.replicate (8 - j) false).length = 8
    rw [List.length_append, List.length_replicate, List.length_replicate]; omega
theorem laidR_zero : laidR 0 = RB.zero := rfl
theorem laidR_all : laidR 8 = RB.blank := rfl
theorem rep_set {α : Type} (a z : α) {j n : Nat} (h : j < n) : (List.replicate j a ++ List.replicate (n - j) z).set j a = List.replicate (j + 1) a ++ List.replicate (n - (j + 1)) z := by
  rw [List.set_append_right _ _ (by simp), List.length_replicate, Nat.sub_self, show n - j = (n - (j + 1)) + 1 by omega, List.replicate_succ, List.set_cons_zero, List.replicate_succ', List.append_assoc]
  rfl
theorem laidR_step {j : Nat} (h : j < 8) : ((laidR j).setPage j NM.ff).setSure j true = laidR (j + 1) := by
  unfold laidR RB.setPage RB.setSure
  rw [rep_set _ _ h, rep_set _ _ h]
end Go.Proofs.YtaafelhjcmgkdaaGreatDoor

/- The document's disk: the contracts of Erase and New. No condition but that it is there. -/
namespace Go.Proofs.YtaafelhjcmgkdaaGreatDoor
open Go.RowKit
theorem seg_cells_at {P : Program} {w : World} {g i : Nat} {t : TypeId} {cs vs : List Value} (hB : Blk w g t cs) (hi : i + vs.length ≤ cs.length) (h1 : ∀ v ∈ vs, v.oneCell' = true) :
    ∃ w', (storeCells ⟨g, i, none⟩ vs).run P w = .ok () w' ∧ Blk w' g t (segSet cs i vs) ∧ w.grownBy w' (some g) ∧ w'.heap.size = w.heap.size := by
  have h := run_storeCells_at P g i t vs 0 cs.toArray w hB (by simp; omega) h1
  have e : (cs.toArray.toList.take (i + 0) ++ vs ++ cs.toArray.toList.drop (i + 0 + vs.length)) = segSet cs i vs := by simp [segSet]
  rw [e] at h
  obtain ⟨r1, r2, r3⟩ := hB.seg (segSet cs i vs)
  exact ⟨_, h, r1, r2, r3⟩
section
variable {w : World} {m g : Nat} {Bs : List RB}
set_option maxRecDepth 100000 in
set_option maxHeartbeats 16000000 in
theorem rerase_any (h : RD w m g Bs) (hl : Bs.length = 18) {b : Nat} (hb : b < 18) : Calls Tryz.prog 12 #[.pointer (some ⟨m, 0, none⟩), .int .i64 (b : Int)] w fun e w' => e = .returned (.tuple #[]) ∧ RD w' m g (Bs.set b RB.blank) ∧ Chg w w' (fun j => j = g) := by
  have zr := zeroRB
  have br := buildRB
  have HL0 := Lib.hid (RB.row_length RB.zero_ok)
  have HL8 := Lib.hid (RB.row_length RB.blank_ok)
  have hs0 := segSet_all (cs := RB.zero.row) (vs := RB.zero.row) rfl
  obtain ⟨z0, hz0⟩ : ∃ z0, z0 = RB.zero.row := ⟨_, rfl⟩
  have HZ1 : Hid (∀ v ∈ z0, v.oneCell' = true) := Lib.hid (by rw [hz0]; exact fun v => RB.one v)
  rw [← hz0] at zr br HL0 hs0
  have HZ := Lib.hid hz0
  have B0 := Blk.new w 58 z0
  have HH := Lib.hid h
  have hLL := Lib.hid hl
  have hb18 : (b : Int) < 18 := by omega
  have hb0 : (0 : Int) ≤ (b : Int) := by omega
  have hB1 : Hid (∀ X, (w.alloc (.cells z0.toArray 58)).grownBy X (some w.heap.size) → Below w.heap.size w X) := Lib.hid (fun X g => ((Below.refl w.heap.size w).alloc (Nat.le_refl _) _).grown g (by simp) (fun k e => Nat.le_of_eq (Option.some.inj e)))
  clear h hl hz0
  go_enter Tryz.func12, Tryz.ntmps12
  go_wp2_with (with_reducible refine wpl_seg_store sizeRB (.tmp 4) (.tmp 6) rfl rfl B0 0 z0 HL0.out (by rw [HL0.out]; exact Nat.le_refl _) HZ1.out rfl rfl _ hs0 ?_; intro w3 N3 g3 e3)
  have HN3 := Lib.hid N3
  have B3 := Lib.hid (hB1.out _ g3)
  clear N3 g3 e3 B0 hs0 zr br
  go_loopw [5] (fun i wr => ∃ j : Nat, j ≤ 8 ∧ i = .int .i64 j ∧ Blk wr w.heap.size 58 (laidR j).row ∧ Below w.heap.size w wr) (fun i _ => 8 - (intOf i).toNat)
  case atStart => exact ⟨0, by omega, rfl, by rw [laidR_zero, ← HZ.out]; exact HN3.out, B3.out⟩
  case round =>
    rename_i wr
    obtain ⟨j, hj, rfl, hN, hB⟩ := hrel
    clear HN3 B3
    by_cases hlt : j < 8
    · have kb := rblank_any wr
      have hlok := laidR_ok (j := j) (by omega)
      have hlen := RB.row_length hlok
      have hlok2 := RB.setPage_ok hlok j NM.ff_length
      have hsp := RB.set_page hlok hlt NM.ff_length
      have hss := RB.set_sure hlok2 hlt true
      rw [laidR_step hlt] at hss
      have hlen2 := RB.row_length hlok2
      obtain ⟨r1, hr1⟩ : ∃ r1, r1 = (laidR j).row := ⟨_, rfl⟩
      obtain ⟨r2, hr2⟩ : ∃ r2, r2 = ((laidR j).setPage j NM.ff).row := ⟨_, rfl⟩
      obtain ⟨fv, hfv⟩ : ∃ fv, fv = bv NM.ff := ⟨_, rfl⟩
      have hfl : fv.length = 258 := by rw [hfv, bv_length]; exact NM.ff_length
      have hf1 : ∀ v ∈ fv, v.oneCell' = true := by rw [hfv]; exact fun v => bv_one
      rw [cl_bv, ← hfv] at kb
      rw [← hr1, ← hfv, ← hr2] at hsp
      rw [← hr1] at hN hlen
      rw [← hr2] at hss hlen2
      have HN := Lib.hid hN
      have HB := Lib.hid hB
      have H1 := Lib.hid hlen
      have H2 := Lib.hid hlen2
      have HF := Lib.hid (And.intro hfl hf1)
      have HSP := Lib.hid hsp
      have HSS := Lib.hid hss
      have hj8 : (j : Int) < 8 := by omega
      clear hN hB hlen hlen2 hfl hf1 hsp hss hr1 hr2 hfv hlok hlok2
      go_wp2_with (first
        | ((with_reducible refine kb.mono ?_); rintro e w4 ⟨rfl, b4⟩; have N4 := HN.out.after b4)
        | (with_reducible refine wpl_seg_store sizePgd (.tmp 14) (.tmp 12) rfl rfl N4 (j * 258) fv HF.out.1 (by rw [H1.out]; omega) HF.out.2 rfl rfl _ HSP.out ?_; intro w5 N5 g5 e5; clear e5)
        | (with_reducible refine wpl_blk_bool true bool_one (.tmp 17) (.const (.bool true)) rfl rfl N5 (2064 + j) (by rw [H2.out]; omega) rfl rfl _ HSS.out ?_; intro w6 N6 g6 e6; clear e6))
      have B5 : Below w.heap.size w w5 := (HB.out.trans (b4.mono HB.out.size)).grown g5 (Nat.le_trans HB.out.size b4.size) (fun k e => Nat.le_of_eq (Option.some.inj e))
      have B6 : Below w.heap.size w w6 := B5.grown g6 B5.size (fun k e => Nat.le_of_eq (Option.some.inj e))
      exact ⟨⟨j + 1, by omega, by go_num, N6, B6⟩, by simp [intOf]; omega⟩
    · obtain rfl : j = 8 := by omega
      rw [laidR_all] at hN
      have HR := HH.out.after hB
      have hgl : g ≠ w.heap.size := by have := HH.out.rg.lt; omega
      have HB := Lib.hid hB
      have hlr := HL8.out
      obtain ⟨rb, hrb⟩ : ∃ rb, rb = RB.blank.row := ⟨_, rfl⟩
      have hrb1 : ∀ v ∈ rb, v.oneCell' = true := by rw [hrb]; exact fun v => RB.one v
      have hseg := HR.rg.segSet (b := b) (by rw [hLL.out]; exact hb) (o := 0) (vs := rb) (B' := RB.blank) (by rw [hrb]; exact segSet_all (by rw [HL8.out]; exact RB.row_length (HR.rg.at_ _))) (by rw [hrb, HL8.out]; omega) RB.blank_ok
      rw [Nat.add_zero] at hseg
      have hglen := HR.rg.len
      rw [← hrb] at hN hlr
      rw [hLL.out] at hglen
      have HSG := Lib.hid hseg
      have HGL := Lib.hid hglen
      have hsl := HR.sl
      rw [hLL.out] at hsl
      clear hB HL8 hrb hseg hglen hj hlt
      obtain ⟨w5, hst, N5, g5, e5⟩ := seg_cells_at (P := Tryz.prog) (w := wr.drew) (i := b * 2074) (vs := rb) (HR.after (Below.refl _ _).drew).rg.blk (by rw [HGL.out, hlr]; omega) hrb1
      rw [HSG.out] at N5
      have S5 : RD w5 m g (Bs.set b RB.blank) := (HR.after (Below.refl _ _).drew).set RB.blank_ok N5 g5
      have S0 : wr.drew.cell? ⟨m, 0, none⟩ = some (.slice (some ⟨g, 0, none⟩) 18 18) ∧ Blk wr.drew w.heap.size 58 rb := ⟨hsl, hN⟩
      have S6 : w5.cell? ⟨m, 0, none⟩ = some (.slice (some ⟨g, 0, none⟩) 18 18) ∧ Blk w5 w.heap.size 58 rb := ⟨by have := S5.sl; rw [List.length_set, hLL.out] at this; exact this, (show Blk wr.drew w.heap.size 58 rb from hN).grown g5 (fun e => hgl (Option.some.inj e).symm)⟩
      have C5 : Chg w w5 (fun j => j = g) := (Chg.of_below HB.out.drew).trans (Chg.of_grown g5 (fun k e => Option.some.inj e))
      go_wp2_with fail
      refine wp_region_held_drew (S := fun w' => w'.cell? ⟨m, 0, none⟩ = some (.slice (some ⟨g, 0, none⟩) 18 18) ∧ Blk w' w.heap.size 58 rb) (by kernel_rfl) S0 (fun _ => ?_)
      refine wpAnyH_take (i := 0) (v := .pointer (some ⟨m, 0, none⟩)) rfl (by kernel_rfl) (by kernel_rfl) (by kernel_rfl) (fun _ _ _ h => h) (Or.inl ⟨by kernel_rfl, fun w _ => by go_simp⟩) S0 ?_
      refine wpAnyH_take (i := 1) (v := .pointer (some ⟨m, 0, none⟩)) rfl (by kernel_rfl) (by kernel_rfl) (by kernel_rfl) (fun _ _ _ h => h) (Or.inl ⟨by kernel_rfl, fun w _ => by go_simp⟩) S0 ?_
      refine wpAnyH_take (i := 2) (v := .pointer (some ⟨m, 0, none⟩)) rfl (by kernel_rfl) (by kernel_rfl) (by kernel_rfl) (fun _ _ _ h => h) (Or.inl ⟨by kernel_rfl, fun w _ => by go_simp⟩) S0 ?_
      refine wpAnyH_take (i := 3) (v := .slice (some ⟨g, 0, none⟩) 18 18) rfl (by kernel_rfl) (by kernel_rfl) (by kernel_rfl) (fun _ _ _ h => h) (yields_one (ty := 59) (fun w => by kernel_rfl) (.tmp 20) (by kernel_rfl) (by kernel_rfl) (by kernel_rfl) (fun _ h => h.1)) S0 ?_
      refine wpAnyH_take (i := 4) (v := .int .i64 (b : Int)) rfl (by kernel_rfl) (by kernel_rfl) (by kernel_rfl) (fun _ _ _ h => h) (Or.inl ⟨by kernel_rfl, fun w _ => by go_simp⟩) S0 ?_
      refine wpAnyH_take (i := 5) (v := .agg rb.toArray) rfl (by kernel_rfl) (by kernel_rfl) (by kernel_rfl) (fun _ _ _ h => h) (yields_seg aggRB sizeRB (.tmp 4) (by kernel_rfl) (by kernel_rfl) (by kernel_rfl) (g := w.heap.size) (i := 0) (fun _ h => h.2) (by rw [List.drop_zero, List.take_of_length_le (Nat.le_of_eq hlr)]) hlr) S0 ?_
      refine wpAnyH_take (i := 6) (v := .pointer (some ⟨g, b * 2074, none⟩)) rfl (by kernel_rfl) (by kernel_rfl) (by kernel_rfl) (fun _ _ _ h => h) (Or.inl ⟨by kernel_rfl, fun w _ => by go_simp⟩) S0 ?_
      refine wpAnyH_ready (rs := [7]) (by kernel_rfl) (by simp) (AllReadyH.cons rfl (fun K hK => ?_) AllReadyH.nil)
      go_simp
      refine hK.out _ _ S6 (fun _ => ?_)
      clear hK K
      refine wpAnyH_done (by kernel_rfl) ?_ _
      go_wp2_with fail
      go_end0
      exact ⟨rfl, S5, C5⟩

theorem madeRB (n : Nat) : madeCells zRB.cells (n * 2074) = ((List.replicate n RB.zero).map RB.row).flatten.toArray := by
  have hc : zRB.cells = RB.zero.row.toArray := by rw [zRB_cells]; rfl
  have hl := RB.row_length RB.zero_ok
  rw [hc]
  apply Array.toList_inj.1
  rw [List.toList_toArray]
  apply List.ext_getElem?
  intro i
  have hrow : ∀ l ∈ (List.replicate n RB.zero).map RB.row, l.length = 2074 := fun l h => by
    obtain ⟨b, hb, rfl⟩ := List.mem_map.1 h
    rw [List.eq_of_mem_replicate hb]; exact hl
  have hfl := NM.flat_length (n := 2074) _ hrow
  rw [List.length_map, List.length_replicate] at hfl
  rcases Nat.lt_or_ge i (n * 2074) with h | h
  · have hb : i / 2074 < n := by omega
    have e := NM.flat_get (n := 2074) _ hrow (i / 2074) (by simpa using hb) (i % 2074) (Nat.mod_lt _ (by omega))
    rw [show i / 2074 * 2074 + i % 2074 = i by omega] at e
    have hm : i % 2074 < RB.zero.row.length := by rw [hl]; exact Nat.mod_lt _ (by omega)
    rw [e]
    simp [madeCells, h, hl]
    rw [List.getElem?_eq_getElem hm]
    rfl
  · rw [List.getElem?_eq_none (l := (List.map RB.row (List.replicate n RB.zero)).flatten) (by omega)]
    simp [madeCells]
    omega
theorem makeRB (w : World) : (Instr.makeSlice 59 (.int .i64 18) (.int .i64 18)).run Tryz.prog w = .ok (.slice (some ⟨w.heap.size, 0, none⟩) 18 18) (w.alloc (.cells ((List.replicate 18 RB.zero).map RB.row).flatten.toArray 58)) := by
  obtain ⟨i, hi, hh⟩ := Option.map_eq_some_iff.1 infoRB
  have e1 : i.zero = some zRB := congrArg (·.1) hh
  have e2 : i.size = 2074 := congrArg (·.2.1) hh
  have e3 : i.bytes = 2088 := congrArg (·.2.2) hh
  have := run_make (P := Tryz.prog) w 59 58 i zRB Tryz.underlying59 hi e1 .i64 .i64 18 18 (by omega) (by omega) (by rw [e3]; omega) (by omega)
  rw [e2] at this
  rw [show (18 : Int).toNat = 18 from rfl, madeRB] at this
  exact this
set_option maxRecDepth 100000 in
set_option maxHeartbeats 16000000 in
theorem rnew_any (w : World) : Calls Tryz.prog 7 #[.int .i64 18] w fun e w' => ∃ m g, e = .returned (.pointer (some ⟨m, 0, none⟩)) ∧ w.heap.size ≤ m ∧ w.heap.size ≤ g ∧ RD w' m g (List.replicate 18 RB.blank) ∧ Below w.heap.size w w' := by
  have mk := makeRB
  obtain ⟨cs, hcs⟩ : ∃ cs, cs = ((List.replicate 18 RB.zero).map RB.row).flatten := ⟨_, rfl⟩
  rw [← hcs] at mk
  have HCS := Lib.hid hcs
  clear hcs
  go_enter Tryz.func7, Tryz.ntmps7
  go_wp2_with fail
  have R0 : RD ((w.alloc (.cells cs.toArray 58)).alloc (.cells #[.slice (some ⟨w.heap.size, 0, none⟩) 18 18] 61)) (w.heap.size + 1) w.heap.size (List.replicate 18 RB.zero) := by
    refine ⟨?_, ⟨?_, fun b hb => by rw [List.eq_of_mem_replicate hb]; exact RB.zero_ok⟩, by omega⟩
    · have h := Blk.new (w.alloc (.cells cs.toArray 58)) 61 [.slice (some ⟨w.heap.size, 0, none⟩) 18 18]
      rw [World.size_alloc] at h
      rw [List.length_replicate]
      exact h
    · rw [← HCS.out]
      exact (Blk.new w _ cs).alloc _
  have B0 : Below w.heap.size w ((w.alloc (.cells cs.toArray 58)).alloc (.cells #[.slice (some ⟨w.heap.size, 0, none⟩) 18 18] 61)) := ((Below.refl _ _).alloc (Nat.le_refl _) _).alloc (by simp) _
  have HR := Lib.hid R0
  have HB := Lib.hid B0
  clear R0 B0 mk
  go_loopw [4] (fun i wr => ∃ j : Nat, j ≤ 18 ∧ i = .int .i64 j ∧ RD wr (w.heap.size + 1) w.heap.size (List.replicate j RB.blank ++ List.replicate (18 - j) RB.zero) ∧ Below w.heap.size w wr) (fun i _ => 18 - (intOf i).toNat)
  case atStart => exact ⟨0, by omega, rfl, HR.out, HB.out⟩
  case round =>
    rename_i wr
    obtain ⟨j, hj, rfl, hR, hB⟩ := hrel
    clear HR HB
    by_cases hlt : j < 18
    · have ke := rerase_any hR (by rw [List.length_append, List.length_replicate, List.length_replicate]; omega) hlt
      rw [rep_set _ _ hlt] at ke
      have HB := Lib.hid hB
      have hj2 : (j : Int) < 18 := by omega
      clear hR hB
      go_wp2_with ((with_reducible refine ke.mono ?_); rintro e w4 ⟨rfl, R4, c4⟩)
      exact ⟨⟨j + 1, by omega, by go_num, R4, HB.out.trans (c4.below (fun k e => by omega) HB.out.size)⟩, by simp [intOf]; omega⟩
    · obtain rfl : j = 18 := by omega
      have HR := Lib.hid hR
      have HB := Lib.hid hB
      clear hR hB
      go_wp2_with fail
      go_ret
      exact ⟨w.heap.size + 1, w.heap.size, rfl, by omega, Nat.le_refl _, HR.out, HB.out⟩
end
end Go.Proofs.YtaafelhjcmgkdaaGreatDoor

/- The document's disk: the contract of Fits. No condition but that it is there. -/
namespace Go.Proofs.YtaafelhjcmgkdaaGreatDoor
open Go.RowKit
/-- is a page as it must be? -/
def Fit (B : RB) (k : Nat) (p : List UInt8) : Prop := B.sure.getD k false = false ∨ p = B.pg.getD k [] ∨ (B.torn = true ∧ p = NM.ff)
theorem yields_pg {ops : Array Oper} {o : Oper} {a : Act} {S : World → Prop} {t : TypeId} {g i : Nat} {cs : List Value} {L : List UInt8} (x : Operand) (ho : o.op = .load 54 x) (hgd : Region.wanted o (yielded ops a.tmps) = true)
    (hx : a.eval x = .pointer (some ⟨g, i, none⟩)) (hS : ∀ w, S w → Blk w g t cs) (hv : (cs.drop i).take 258 = bv L) (hL : L.length = 258) : YieldsIf Tryz.prog ops S o (.agg (cl L)) a := by
  rw [cl_bv]
  exact yields_seg aggPgd sizePgd x ho hgd hx hS hv (by rw [bv_length, hL])
section
variable {w : World} {m g : Nat} {Bs : List RB}
set_option maxRecDepth 100000 in
set_option maxHeartbeats 32000000 in
theorem dfits_any (h : RD w m g Bs) (hl : Bs.length = 18) {b k : Nat} (hb : b < 18) (hk : k < 8) {p : List UInt8} (hp : p.length = 258) (hF : Fit (Bs[b]'(by omega)) k p) :
    Calls Tryz.prog 30 #[.pointer (some ⟨m, 0, none⟩), .int .i64 (b : Int), .int .i64 (k : Int), .agg (cl p)] w fun e w' => e = .returned (.bool true) ∧ Below w.heap.size w w' := by
  have zr := zeroRB
  have HB0 := Lib.hid (RB.row_length RB.zero_ok)
  obtain ⟨z0, hz0⟩ : ∃ z0, z0 = RB.zero.row := ⟨_, rfl⟩
  rw [← hz0] at zr HB0
  obtain ⟨B, hB⟩ : ∃ B, B = Bs[b]'(by omega) := ⟨_, rfl⟩
  have hok : B.ok := by rw [hB]; exact h.rg.at_ _
  have hseg := h.rg.seg (b := b) (by omega)
  rw [← hB] at hseg hF
  have hrl := RB.row_length hok
  have hst := RB.row_torn hok
  have hss := RB.row_sure hok hk
  have hpg := RB.row_page hok hk
  have hpl : (B.pg.getD k []).length = 258 := by
    have hq : k < B.pg.length := by rw [hok.p8]; exact hk
    rw [List.getD_eq_getElem?_getD, List.getElem?_eq_getElem hq]
    exact hok.pl _ (List.getElem_mem _)
  have hone : ∀ v ∈ B.row, v.oneCell' = true := fun v => RB.one v
  unfold Fit at hF
  obtain ⟨tn, htn⟩ : ∃ tn, tn = B.torn := ⟨_, rfl⟩
  obtain ⟨su, hsu⟩ : ∃ su, su = B.sure.getD k false := ⟨_, rfl⟩
  obtain ⟨P, hP⟩ : ∃ P, P = B.pg.getD k [] := ⟨_, rfl⟩
  obtain ⟨rw', hrw⟩ : ∃ r, r = B.row := ⟨_, rfl⟩
  rw [← htn, ← hsu, ← hP] at hF
  rw [← htn] at hst
  rw [← hsu] at hss
  rw [← hP] at hpg hpl
  rw [← hrw] at hseg hrl hst hss hpg hone
  have b0 : Below w.heap.size w (w.alloc (.cells (cl p) 54)) := (Below.refl _ _).alloc (Nat.le_refl _) _
  have b1 : Below w.heap.size w ((w.alloc (.cells (cl p) 54)).alloc (.cells z0.toArray 58)) := b0.alloc b0.size _
  have N1 : PArr ((w.alloc (.cells (cl p) 54)).alloc (.cells z0.toArray 58)) w.heap.size p := (PArr.new w hp).alloc _
  have Z1 : Blk ((w.alloc (.cells (cl p) 54)).alloc (.cells z0.toArray 58)) (w.heap.size + 1) 58 z0 := by
    have := Blk.new (w.alloc (.cells (cl p) 54)) 58 z0
    rw [World.size_alloc] at this
    exact this
  have hsl := (h.after b0).sl
  rw [hl] at hsl
  have HG := Lib.hid (h.after b0).rg.blk
  have HSG := Lib.hid hseg
  have HRL := Lib.hid hrl
  have HST := Lib.hid hst
  have HSS := Lib.hid hss
  have HPG := Lib.hid hpg
  have HPL := Lib.hid hpl
  have HON := Lib.hid hone
  have HN := Lib.hid N1
  have HB1 := Lib.hid b1
  have hs0 := segSet_all (cs := z0) (vs := rw') (by rw [HB0.out, HRL.out])
  have HS0 := Lib.hid hs0
  have HP := Lib.hid hp
  have HF := Lib.hid hF
  have hEq : ∀ w, (Op.equalIn 10000 54 (.agg (cl p)) (.agg (cl P))).run Tryz.prog w = .ok (decide (p = P)) w := fun w => equalIn_pcl hp hpl w
  have hEf : ∀ w, (Op.equalIn 10000 54 (.agg (cl p)) (.agg (cl NM.ff))).run Tryz.prog w = .ok (decide (p = NM.ff)) w := fun w => equalIn_pcl hp NM.ff_length w
  have kb := fun (W : World) => rblank_any W
  obtain ⟨ffv, hffv⟩ : ∃ ffv, ffv = NM.ff := ⟨_, rfl⟩
  rw [← hffv] at kb hEf HF
  have KB := Lib.hid kb
  have HE := Lib.hid (And.intro hEq hEf)
  have hb18 : (b : Int) < 18 := by omega
  have hk8 : (k : Int) < 8 := by omega
  clear h hl hz0 hB hok hseg hrl hst hss hpg hpl hone htn hsu hP hrw b0 b1 N1 hs0 hp hF hEq hEf kb hffv
  cases tn with
  | false =>
    go_enter Tryz.func30, Tryz.ntmps30
    go_wp2_with (first
      | (with_reducible refine wpl_seg_load aggRB sizeRB (.tmp 15) rfl rfl HG.out (b * 2074) rw' HSG.out HRL.out rfl ?_)
      | ((with_reducible refine wpl_seg_store sizeRB (.tmp 9) (.tmp 16) rfl rfl Z1 0 rw' HRL.out (by rw [HB0.out]; exact Nat.le_refl _) HON.out rfl rfl _ HS0.out ?_); intro w3 N3 g3 e3; clear e3; have c3 := (N3.cell 2073).trans HST.out))
    have M3 : PArr w3 w.heap.size p := HN.out.grown g3 (by omega)
    have B3 : Below w.heap.size w w3 := HB1.out.grown g3 (by simp; omega) (fun k e => by cases e; omega)
    clear zr Z1 HG HSG HON HS0 HN HB1 g3 hsl
    have S0 : PArr w3.drew w.heap.size p ∧ Blk w3.drew (w.heap.size + 1) 58 rw' := ⟨M3, N3⟩
    have hcs : ∀ w', (PArr w' w.heap.size p ∧ Blk w' (w.heap.size + 1) 58 rw') → w'.cell? ⟨w.heap.size + 1, 2064 + k, none⟩ = some (.bool su) := fun w' h => (h.2.cell _).trans HSS.out
    cases su with
    | false =>
      refine wp_region_held_drew (S := fun w' => PArr w' w.heap.size p ∧ Blk w' (w.heap.size + 1) 58 rw') (by kernel_rfl) S0 (fun _ => ?_)
      refine wpAnyH_take (i := 0) (v := .int .i64 (k : Int)) rfl (by kernel_rfl) (by kernel_rfl) (by kernel_rfl) (fun _ _ _ h => h) (Or.inl ⟨by kernel_rfl, fun w _ => by go_simp⟩) S0 ?_
      refine wpAnyH_take (i := 1) (v := .pointer (some ⟨w.heap.size + 1, 2064, none⟩)) rfl (by kernel_rfl) (by kernel_rfl) (by kernel_rfl) (fun _ _ _ h => h) (Or.inl ⟨by kernel_rfl, fun w _ => by go_simp⟩) S0 ?_
      refine wpAnyH_take (i := 2) (v := .pointer (some ⟨w.heap.size + 1, 2064 + k, none⟩)) rfl (by kernel_rfl) (by kernel_rfl) (by kernel_rfl) (fun _ _ _ h => h) (Or.inl ⟨by kernel_rfl, fun w _ => by go_simp⟩) S0 ?_
      refine wpAnyH_take (i := 3) (v := .bool false) rfl (by kernel_rfl) (by kernel_rfl) (by kernel_rfl) (fun _ _ _ h => h) (yields_one (ty := 4) (fun w => by kernel_rfl) (.tmp 39) (by kernel_rfl) (by kernel_rfl) (by kernel_rfl) (fun w h => hcs w h)) S0 ?_
      refine wpAnyH_take (i := 4) (v := .bool true) rfl (by kernel_rfl) (by kernel_rfl) (by kernel_rfl) (fun _ _ _ h => h) (Or.inl ⟨by kernel_rfl, fun w _ => by go_simp⟩) S0 ?_
      refine wpAnyH_take (i := 5) (v := .bool true) rfl (by kernel_rfl) (by kernel_rfl) (by kernel_rfl) (fun _ _ _ h => h) (Or.inl ⟨by kernel_rfl, fun w _ => by go_simp⟩) S0 ?_
      refine wpAnyH_take (i := 6) (v := undef) rfl (by kernel_rfl) (by kernel_rfl) (by kernel_rfl) (fun _ _ _ h => h) (Or.inr ⟨by kernel_rfl, rfl⟩) S0 ?_
      refine wpAnyH_take (i := 7) (v := undef) rfl (by kernel_rfl) (by kernel_rfl) (by kernel_rfl) (fun _ _ _ h => h) (Or.inr ⟨by kernel_rfl, rfl⟩) S0 ?_
      refine wpAnyH_take (i := 8) (v := undef) rfl (by kernel_rfl) (by kernel_rfl) (by kernel_rfl) (fun _ _ _ h => h) (Or.inr ⟨by kernel_rfl, rfl⟩) S0 ?_
      refine wpAnyH_take (i := 9) (v := undef) rfl (by kernel_rfl) (by kernel_rfl) (by kernel_rfl) (fun _ _ _ h => h) (Or.inr ⟨by kernel_rfl, rfl⟩) S0 ?_
      refine wpAnyH_take (i := 10) (v := undef) rfl (by kernel_rfl) (by kernel_rfl) (by kernel_rfl) (fun _ _ _ h => h) (Or.inr ⟨by kernel_rfl, rfl⟩) S0 ?_
      refine wpAnyH_take (i := 11) (v := undef) rfl (by kernel_rfl) (by kernel_rfl) (by kernel_rfl) (fun _ _ _ h => h) (Or.inr ⟨by kernel_rfl, rfl⟩) S0 ?_
      refine wpAnyH_take (i := 12) (v := .bool true) rfl (by kernel_rfl) (by kernel_rfl) (by kernel_rfl) (fun _ _ _ h => h) (Or.inl ⟨by kernel_rfl, fun w _ => by go_simp⟩) S0 ?_
      refine wpAnyH_take (i := 13) (v := .bool true) rfl (by kernel_rfl) (by kernel_rfl) (by kernel_rfl) (fun _ _ _ h => h) (Or.inl ⟨by kernel_rfl, fun w _ => by go_simp⟩) S0 ?_
      refine wpAnyH_done (by kernel_rfl) ?_ _
      clear S0 hcs
      go_wp2_with fail
      go_ret
      exact ⟨rfl, B3.drew⟩
    | true =>
      obtain rfl : p = P := by
        rcases HF.out with q | q | q
        · cases q
        · exact q
        · cases q.1
      have hEq := HE.out.1
      rw [decide_eq_true rfl] at hEq
      refine wp_region_held_drew (S := fun w' => PArr w' w.heap.size p ∧ Blk w' (w.heap.size + 1) 58 rw') (by kernel_rfl) S0 (fun _ => ?_)
      refine wpAnyH_take (i := 0) (v := .int .i64 (k : Int)) rfl (by kernel_rfl) (by kernel_rfl) (by kernel_rfl) (fun _ _ _ h => h) (Or.inl ⟨by kernel_rfl, fun w _ => by go_simp⟩) S0 ?_
      refine wpAnyH_take (i := 1) (v := .pointer (some ⟨w.heap.size + 1, 2064, none⟩)) rfl (by kernel_rfl) (by kernel_rfl) (by kernel_rfl) (fun _ _ _ h => h) (Or.inl ⟨by kernel_rfl, fun w _ => by go_simp⟩) S0 ?_
      refine wpAnyH_take (i := 2) (v := .pointer (some ⟨w.heap.size + 1, 2064 + k, none⟩)) rfl (by kernel_rfl) (by kernel_rfl) (by kernel_rfl) (fun _ _ _ h => h) (Or.inl ⟨by kernel_rfl, fun w _ => by go_simp⟩) S0 ?_
      refine wpAnyH_take (i := 3) (v := .bool true) rfl (by kernel_rfl) (by kernel_rfl) (by kernel_rfl) (fun _ _ _ h => h) (yields_one (ty := 4) (fun w => by kernel_rfl) (.tmp 39) (by kernel_rfl) (by kernel_rfl) (by kernel_rfl) (fun w h => hcs w h)) S0 ?_
      refine wpAnyH_take (i := 4) (v := .bool false) rfl (by kernel_rfl) (by kernel_rfl) (by kernel_rfl) (fun _ _ _ h => h) (Or.inl ⟨by kernel_rfl, fun w _ => by go_simp⟩) S0 ?_
      refine wpAnyH_take (i := 5) (v := .bool false) rfl (by kernel_rfl) (by kernel_rfl) (by kernel_rfl) (fun _ _ _ h => h) (Or.inl ⟨by kernel_rfl, fun w _ => by go_simp⟩) S0 ?_
      refine wpAnyH_take (i := 6) (v := .agg (cl p)) rfl (by kernel_rfl) (by kernel_rfl) (by kernel_rfl) (fun _ _ _ h => h) (yields_pload (g := w.heap.size) (.tmp 7) (by kernel_rfl) (by kernel_rfl) (by kernel_rfl) (fun _ h => h.1)) S0 ?_
      refine wpAnyH_take (i := 7) (v := .int .i64 (k : Int)) rfl (by kernel_rfl) (by kernel_rfl) (by kernel_rfl) (fun _ _ _ h => h) (Or.inl ⟨by kernel_rfl, fun w _ => by go_simp⟩) S0 ?_
      refine wpAnyH_take (i := 8) (v := .pointer (some ⟨w.heap.size + 1, 0, none⟩)) rfl (by kernel_rfl) (by kernel_rfl) (by kernel_rfl) (fun _ _ _ h => h) (Or.inl ⟨by kernel_rfl, fun w _ => by go_simp⟩) S0 ?_
      refine wpAnyH_take (i := 9) (v := .pointer (some ⟨w.heap.size + 1, k * 258, none⟩)) rfl (by kernel_rfl) (by kernel_rfl) (by kernel_rfl) (fun _ _ _ h => h) (Or.inl ⟨by kernel_rfl, fun w _ => by go_simp⟩) S0 ?_
      refine wpAnyH_take (i := 10) (v := .agg (cl p)) rfl (by kernel_rfl) (by kernel_rfl) (by kernel_rfl) (fun _ _ _ h => h) (yields_pg (.tmp 46) (by kernel_rfl) (by kernel_rfl) (by kernel_rfl) (fun _ h => h.2) HPG.out HPL.out) S0 ?_
      refine wpAnyH_take (i := 11) (v := .bool true) rfl (by kernel_rfl) (by kernel_rfl) (by kernel_rfl) (fun _ _ _ h => h) (Or.inl ⟨by kernel_rfl, fun w _ => by go_simp⟩) S0 ?_
      refine wpAnyH_take (i := 12) (v := .bool true) rfl (by kernel_rfl) (by kernel_rfl) (by kernel_rfl) (fun _ _ _ h => h) (Or.inl ⟨by kernel_rfl, fun w _ => by go_simp⟩) S0 ?_
      refine wpAnyH_take (i := 13) (v := .bool true) rfl (by kernel_rfl) (by kernel_rfl) (by kernel_rfl) (fun _ _ _ h => h) (Or.inl ⟨by kernel_rfl, fun w _ => by go_simp⟩) S0 ?_
      refine wpAnyH_done (by kernel_rfl) ?_ _
      clear S0 hcs
      go_wp2_with fail
      go_ret
      exact ⟨rfl, B3.drew⟩
  | true =>
    go_enter Tryz.func30, Tryz.ntmps30
    go_wp2_with (first
      | (with_reducible refine wpl_seg_load aggRB sizeRB (.tmp 15) rfl rfl HG.out (b * 2074) rw' HSG.out HRL.out rfl ?_)
      | ((with_reducible refine wpl_seg_store sizeRB (.tmp 9) (.tmp 16) rfl rfl Z1 0 rw' HRL.out (by rw [HB0.out]; exact Nat.le_refl _) HON.out rfl rfl _ HS0.out ?_); intro w3 N3 g3 e3; clear e3; have c3 := (N3.cell 2073).trans HST.out))
    have M3 : PArr w3 w.heap.size p := HN.out.grown g3 (by omega)
    have B3 : Below w.heap.size w w3 := HB1.out.grown g3 (by simp; omega) (fun k e => by cases e; omega)
    clear zr Z1 HG HSG HON HS0 HN HB1 g3 hsl
    have S0 : PArr w3.drew w.heap.size p ∧ Blk w3.drew (w.heap.size + 1) 58 rw' := ⟨M3, N3⟩
    have hcs : ∀ w', (PArr w' w.heap.size p ∧ Blk w' (w.heap.size + 1) 58 rw') → w'.cell? ⟨w.heap.size + 1, 2064 + k, none⟩ = some (.bool su) := fun w' h => (h.2.cell _).trans HSS.out
    cases su with
    | false =>
      refine wp_region_held_drew (S := fun w' => PArr w' w.heap.size p ∧ Blk w' (w.heap.size + 1) 58 rw') (by kernel_rfl) S0 (fun _ => ?_)
      refine wpAnyH_take (i := 0) (v := .int .i64 (k : Int)) rfl (by kernel_rfl) (by kernel_rfl) (by kernel_rfl) (fun _ _ _ h => h) (Or.inl ⟨by kernel_rfl, fun w _ => by go_simp⟩) S0 ?_
      refine wpAnyH_take (i := 1) (v := .pointer (some ⟨w.heap.size + 1, 2064, none⟩)) rfl (by kernel_rfl) (by kernel_rfl) (by kernel_rfl) (fun _ _ _ h => h) (Or.inl ⟨by kernel_rfl, fun w _ => by go_simp⟩) S0 ?_
      refine wpAnyH_take (i := 2) (v := .pointer (some ⟨w.heap.size + 1, 2064 + k, none⟩)) rfl (by kernel_rfl) (by kernel_rfl) (by kernel_rfl) (fun _ _ _ h => h) (Or.inl ⟨by kernel_rfl, fun w _ => by go_simp⟩) S0 ?_
      refine wpAnyH_take (i := 3) (v := .bool false) rfl (by kernel_rfl) (by kernel_rfl) (by kernel_rfl) (fun _ _ _ h => h) (yields_one (ty := 4) (fun w => by kernel_rfl) (.tmp 21) (by kernel_rfl) (by kernel_rfl) (by kernel_rfl) (fun w h => hcs w h)) S0 ?_
      refine wpAnyH_take (i := 4) (v := .bool true) rfl (by kernel_rfl) (by kernel_rfl) (by kernel_rfl) (fun _ _ _ h => h) (Or.inl ⟨by kernel_rfl, fun w _ => by go_simp⟩) S0 ?_
      refine wpAnyH_take (i := 5) (v := .bool true) rfl (by kernel_rfl) (by kernel_rfl) (by kernel_rfl) (fun _ _ _ h => h) (Or.inl ⟨by kernel_rfl, fun w _ => by go_simp⟩) S0 ?_
      refine wpAnyH_take (i := 6) (v := undef) rfl (by kernel_rfl) (by kernel_rfl) (by kernel_rfl) (fun _ _ _ h => h) (Or.inr ⟨by kernel_rfl, rfl⟩) S0 ?_
      refine wpAnyH_take (i := 7) (v := undef) rfl (by kernel_rfl) (by kernel_rfl) (by kernel_rfl) (fun _ _ _ h => h) (Or.inr ⟨by kernel_rfl, rfl⟩) S0 ?_
      refine wpAnyH_take (i := 8) (v := undef) rfl (by kernel_rfl) (by kernel_rfl) (by kernel_rfl) (fun _ _ _ h => h) (Or.inr ⟨by kernel_rfl, rfl⟩) S0 ?_
      refine wpAnyH_take (i := 9) (v := undef) rfl (by kernel_rfl) (by kernel_rfl) (by kernel_rfl) (fun _ _ _ h => h) (Or.inr ⟨by kernel_rfl, rfl⟩) S0 ?_
      refine wpAnyH_take (i := 10) (v := undef) rfl (by kernel_rfl) (by kernel_rfl) (by kernel_rfl) (fun _ _ _ h => h) (Or.inr ⟨by kernel_rfl, rfl⟩) S0 ?_
      refine wpAnyH_take (i := 11) (v := undef) rfl (by kernel_rfl) (by kernel_rfl) (by kernel_rfl) (fun _ _ _ h => h) (Or.inr ⟨by kernel_rfl, rfl⟩) S0 ?_
      refine wpAnyH_take (i := 12) (v := .bool true) rfl (by kernel_rfl) (by kernel_rfl) (by kernel_rfl) (fun _ _ _ h => h) (Or.inl ⟨by kernel_rfl, fun w _ => by go_simp⟩) S0 ?_
      refine wpAnyH_take (i := 13) (v := .bool true) rfl (by kernel_rfl) (by kernel_rfl) (by kernel_rfl) (fun _ _ _ h => h) (Or.inl ⟨by kernel_rfl, fun w _ => by go_simp⟩) S0 ?_
      refine wpAnyH_take (i := 14) (v := undef) rfl (by kernel_rfl) (by kernel_rfl) (by kernel_rfl) (fun _ _ _ h => h) (Or.inr ⟨by kernel_rfl, rfl⟩) S0 ?_
      refine wpAnyH_take (i := 15) (v := undef) rfl (by kernel_rfl) (by kernel_rfl) (by kernel_rfl) (fun _ _ _ h => h) (Or.inr ⟨by kernel_rfl, rfl⟩) S0 ?_
      refine wpAnyH_take (i := 16) (v := undef) rfl (by kernel_rfl) (by kernel_rfl) (by kernel_rfl) (fun _ _ _ h => h) (Or.inr ⟨by kernel_rfl, rfl⟩) S0 ?_
      refine wpAnyH_take (i := 17) (v := .bool true) rfl (by kernel_rfl) (by kernel_rfl) (by kernel_rfl) (fun _ _ _ h => h) (Or.inl ⟨by kernel_rfl, fun w _ => by go_simp⟩) S0 ?_
      refine wpAnyH_take (i := 18) (v := .bool true) rfl (by kernel_rfl) (by kernel_rfl) (by kernel_rfl) (fun _ _ _ h => h) (Or.inl ⟨by kernel_rfl, fun w _ => by go_simp⟩) S0 ?_
      refine wpAnyH_done (by kernel_rfl) ?_ _
      clear S0 hcs
      go_wp2_with fail
      go_ret
      exact ⟨rfl, B3.drew⟩
    | true =>
      by_cases hpP : p = P
      · subst hpP
        have hEq := HE.out.1
        rw [decide_eq_true rfl] at hEq
        refine wp_region_held_drew (S := fun w' => PArr w' w.heap.size p ∧ Blk w' (w.heap.size + 1) 58 rw') (by kernel_rfl) S0 (fun _ => ?_)
        refine wpAnyH_take (i := 0) (v := .int .i64 (k : Int)) rfl (by kernel_rfl) (by kernel_rfl) (by kernel_rfl) (fun _ _ _ h => h) (Or.inl ⟨by kernel_rfl, fun w _ => by go_simp⟩) S0 ?_
        refine wpAnyH_take (i := 1) (v := .pointer (some ⟨w.heap.size + 1, 2064, none⟩)) rfl (by kernel_rfl) (by kernel_rfl) (by kernel_rfl) (fun _ _ _ h => h) (Or.inl ⟨by kernel_rfl, fun w _ => by go_simp⟩) S0 ?_
        refine wpAnyH_take (i := 2) (v := .pointer (some ⟨w.heap.size + 1, 2064 + k, none⟩)) rfl (by kernel_rfl) (by kernel_rfl) (by kernel_rfl) (fun _ _ _ h => h) (Or.inl ⟨by kernel_rfl, fun w _ => by go_simp⟩) S0 ?_
        refine wpAnyH_take (i := 3) (v := .bool true) rfl (by kernel_rfl) (by kernel_rfl) (by kernel_rfl) (fun _ _ _ h => h) (yields_one (ty := 4) (fun w => by kernel_rfl) (.tmp 21) (by kernel_rfl) (by kernel_rfl) (by kernel_rfl) (fun w h => hcs w h)) S0 ?_
        refine wpAnyH_take (i := 4) (v := .bool false) rfl (by kernel_rfl) (by kernel_rfl) (by kernel_rfl) (fun _ _ _ h => h) (Or.inl ⟨by kernel_rfl, fun w _ => by go_simp⟩) S0 ?_
        refine wpAnyH_take (i := 5) (v := .bool false) rfl (by kernel_rfl) (by kernel_rfl) (by kernel_rfl) (fun _ _ _ h => h) (Or.inl ⟨by kernel_rfl, fun w _ => by go_simp⟩) S0 ?_
        refine wpAnyH_take (i := 6) (v := .agg (cl p)) rfl (by kernel_rfl) (by kernel_rfl) (by kernel_rfl) (fun _ _ _ h => h) (yields_pload (g := w.heap.size) (.tmp 7) (by kernel_rfl) (by kernel_rfl) (by kernel_rfl) (fun _ h => h.1)) S0 ?_
        refine wpAnyH_take (i := 7) (v := .int .i64 (k : Int)) rfl (by kernel_rfl) (by kernel_rfl) (by kernel_rfl) (fun _ _ _ h => h) (Or.inl ⟨by kernel_rfl, fun w _ => by go_simp⟩) S0 ?_
        refine wpAnyH_take (i := 8) (v := .pointer (some ⟨w.heap.size + 1, 0, none⟩)) rfl (by kernel_rfl) (by kernel_rfl) (by kernel_rfl) (fun _ _ _ h => h) (Or.inl ⟨by kernel_rfl, fun w _ => by go_simp⟩) S0 ?_
        refine wpAnyH_take (i := 9) (v := .pointer (some ⟨w.heap.size + 1, k * 258, none⟩)) rfl (by kernel_rfl) (by kernel_rfl) (by kernel_rfl) (fun _ _ _ h => h) (Or.inl ⟨by kernel_rfl, fun w _ => by go_simp⟩) S0 ?_
        refine wpAnyH_take (i := 10) (v := .agg (cl p)) rfl (by kernel_rfl) (by kernel_rfl) (by kernel_rfl) (fun _ _ _ h => h) (yields_pg (.tmp 28) (by kernel_rfl) (by kernel_rfl) (by kernel_rfl) (fun _ h => h.2) HPG.out HPL.out) S0 ?_
        refine wpAnyH_take (i := 11) (v := .bool true) rfl (by kernel_rfl) (by kernel_rfl) (by kernel_rfl) (fun _ _ _ h => h) (Or.inl ⟨by kernel_rfl, fun w _ => by go_simp⟩) S0 ?_
        refine wpAnyH_take (i := 12) (v := .bool true) rfl (by kernel_rfl) (by kernel_rfl) (by kernel_rfl) (fun _ _ _ h => h) (Or.inl ⟨by kernel_rfl, fun w _ => by go_simp⟩) S0 ?_
        refine wpAnyH_take (i := 13) (v := .bool true) rfl (by kernel_rfl) (by kernel_rfl) (by kernel_rfl) (fun _ _ _ h => h) (Or.inl ⟨by kernel_rfl, fun w _ => by go_simp⟩) S0 ?_
        refine wpAnyH_take (i := 14) (v := undef) rfl (by kernel_rfl) (by kernel_rfl) (by kernel_rfl) (fun _ _ _ h => h) (Or.inr ⟨by kernel_rfl, rfl⟩) S0 ?_
        refine wpAnyH_take (i := 15) (v := undef) rfl (by kernel_rfl) (by kernel_rfl) (by kernel_rfl) (fun _ _ _ h => h) (Or.inr ⟨by kernel_rfl, rfl⟩) S0 ?_
        refine wpAnyH_take (i := 16) (v := undef) rfl (by kernel_rfl) (by kernel_rfl) (by kernel_rfl) (fun _ _ _ h => h) (Or.inr ⟨by kernel_rfl, rfl⟩) S0 ?_
        refine wpAnyH_take (i := 17) (v := .bool true) rfl (by kernel_rfl) (by kernel_rfl) (by kernel_rfl) (fun _ _ _ h => h) (Or.inl ⟨by kernel_rfl, fun w _ => by go_simp⟩) S0 ?_
        refine wpAnyH_take (i := 18) (v := .bool true) rfl (by kernel_rfl) (by kernel_rfl) (by kernel_rfl) (fun _ _ _ h => h) (Or.inl ⟨by kernel_rfl, fun w _ => by go_simp⟩) S0 ?_
        refine wpAnyH_done (by kernel_rfl) ?_ _
        clear S0 hcs
        go_wp2_with fail
        go_ret
        exact ⟨rfl, B3.drew⟩
      · have hff : p = ffv := by
          rcases HF.out with q | q | q
          · cases q
          · exact absurd q hpP
          · exact q.2
        subst hff
        have hEq := HE.out.1
        rw [decide_eq_false hpP] at hEq
        have hEf := HE.out.2
        rw [decide_eq_true rfl] at hEf
        refine wp_region_held_drew (S := fun w' => PArr w' w.heap.size p ∧ Blk w' (w.heap.size + 1) 58 rw') (by kernel_rfl) S0 (fun _ => ?_)
        refine wpAnyH_take (i := 0) (v := .int .i64 (k : Int)) rfl (by kernel_rfl) (by kernel_rfl) (by kernel_rfl) (fun _ _ _ h => h) (Or.inl ⟨by kernel_rfl, fun w _ => by go_simp⟩) S0 ?_
        refine wpAnyH_take (i := 1) (v := .pointer (some ⟨w.heap.size + 1, 2064, none⟩)) rfl (by kernel_rfl) (by kernel_rfl) (by kernel_rfl) (fun _ _ _ h => h) (Or.inl ⟨by kernel_rfl, fun w _ => by go_simp⟩) S0 ?_
        refine wpAnyH_take (i := 2) (v := .pointer (some ⟨w.heap.size + 1, 2064 + k, none⟩)) rfl (by kernel_rfl) (by kernel_rfl) (by kernel_rfl) (fun _ _ _ h => h) (Or.inl ⟨by kernel_rfl, fun w _ => by go_simp⟩) S0 ?_
        refine wpAnyH_take (i := 3) (v := .bool true) rfl (by kernel_rfl) (by kernel_rfl) (by kernel_rfl) (fun _ _ _ h => h) (yields_one (ty := 4) (fun w => by kernel_rfl) (.tmp 21) (by kernel_rfl) (by kernel_rfl) (by kernel_rfl) (fun w h => hcs w h)) S0 ?_
        refine wpAnyH_take (i := 4) (v := .bool false) rfl (by kernel_rfl) (by kernel_rfl) (by kernel_rfl) (fun _ _ _ h => h) (Or.inl ⟨by kernel_rfl, fun w _ => by go_simp⟩) S0 ?_
        refine wpAnyH_take (i := 5) (v := .bool false) rfl (by kernel_rfl) (by kernel_rfl) (by kernel_rfl) (fun _ _ _ h => h) (Or.inl ⟨by kernel_rfl, fun w _ => by go_simp⟩) S0 ?_
        refine wpAnyH_take (i := 6) (v := .agg (cl p)) rfl (by kernel_rfl) (by kernel_rfl) (by kernel_rfl) (fun _ _ _ h => h) (yields_pload (g := w.heap.size) (.tmp 7) (by kernel_rfl) (by kernel_rfl) (by kernel_rfl) (fun _ h => h.1)) S0 ?_
        refine wpAnyH_take (i := 7) (v := .int .i64 (k : Int)) rfl (by kernel_rfl) (by kernel_rfl) (by kernel_rfl) (fun _ _ _ h => h) (Or.inl ⟨by kernel_rfl, fun w _ => by go_simp⟩) S0 ?_
        refine wpAnyH_take (i := 8) (v := .pointer (some ⟨w.heap.size + 1, 0, none⟩)) rfl (by kernel_rfl) (by kernel_rfl) (by kernel_rfl) (fun _ _ _ h => h) (Or.inl ⟨by kernel_rfl, fun w _ => by go_simp⟩) S0 ?_
        refine wpAnyH_take (i := 9) (v := .pointer (some ⟨w.heap.size + 1, k * 258, none⟩)) rfl (by kernel_rfl) (by kernel_rfl) (by kernel_rfl) (fun _ _ _ h => h) (Or.inl ⟨by kernel_rfl, fun w _ => by go_simp⟩) S0 ?_
        refine wpAnyH_take (i := 10) (v := .agg (cl P)) rfl (by kernel_rfl) (by kernel_rfl) (by kernel_rfl) (fun _ _ _ h => h) (yields_pg (.tmp 28) (by kernel_rfl) (by kernel_rfl) (by kernel_rfl) (fun _ h => h.2) HPG.out HPL.out) S0 ?_
        refine wpAnyH_take (i := 11) (v := .bool false) rfl (by kernel_rfl) (by kernel_rfl) (by kernel_rfl) (fun _ _ _ h => h) (Or.inl ⟨by kernel_rfl, fun w _ => by go_simp⟩) S0 ?_
        refine wpAnyH_take (i := 12) (v := .bool false) rfl (by kernel_rfl) (by kernel_rfl) (by kernel_rfl) (fun _ _ _ h => h) (Or.inl ⟨by kernel_rfl, fun w _ => by go_simp⟩) S0 ?_
        refine wpAnyH_take (i := 13) (v := .bool false) rfl (by kernel_rfl) (by kernel_rfl) (by kernel_rfl) (fun _ _ _ h => h) (Or.inl ⟨by kernel_rfl, fun w _ => by go_simp⟩) S0 ?_
        refine wpAnyH_take (i := 14) (v := .agg (cl p)) rfl (by kernel_rfl) (by kernel_rfl) (by kernel_rfl) (fun _ _ _ h => h) (yields_pload (g := w.heap.size) (.tmp 7) (by kernel_rfl) (by kernel_rfl) (by kernel_rfl) (fun _ h => h.1)) S0 ?_
        refine wpAnyH_ready (rs := [15]) (by kernel_rfl) (by simp) (AllReadyH.cons rfl (fun K hK => ?_) AllReadyH.nil)
        go_simp
        have kq := KB.out w3.drew
        ((with_reducible refine kq.mono ?_); rintro e w4 ⟨rfl, b4⟩)
        have S4 : PArr w4 w.heap.size p ∧ Blk w4 (w.heap.size + 1) 58 rw' := ⟨S0.1.after b4, S0.2.after b4⟩
        refine hK.out _ _ S4 (fun _ => ?_)
        clear hK K kq
        refine wpAnyH_take (i := 16) (v := .bool true) rfl (by kernel_rfl) (by kernel_rfl) (by kernel_rfl) (fun _ _ _ h => h) (Or.inl ⟨by kernel_rfl, fun w _ => by go_simp⟩) S4 ?_
        refine wpAnyH_take (i := 17) (v := .bool true) rfl (by kernel_rfl) (by kernel_rfl) (by kernel_rfl) (fun _ _ _ h => h) (Or.inl ⟨by kernel_rfl, fun w _ => by go_simp⟩) S4 ?_
        refine wpAnyH_take (i := 18) (v := .bool true) rfl (by kernel_rfl) (by kernel_rfl) (by kernel_rfl) (fun _ _ _ h => h) (Or.inl ⟨by kernel_rfl, fun w _ => by go_simp⟩) S4 ?_
        refine wpAnyH_done (by kernel_rfl) ?_ _
        clear S0 S4 hcs
        go_wp2_with fail
        go_ret
        exact ⟨rfl, B3.drew.trans (b4.mono B3.drew.size)⟩
end
end Go.Proofs.YtaafelhjcmgkdaaGreatDoor

/- The laws' own whole: each page is as it must be. Condition: the disk is in order, its pages fit the document's. -/
namespace Go.Proofs.YtaafelhjcmgkdaaGreatDoor
open Go.RowKit
/-- a disk in order, its power on -/
structure Disk0 (w : World) (d t : Nat) (a : At) (X : DS) (N f e K : Nat) : Prop where
  dk : Dk w d t a X
  ok : DOk X N f e K
  on : X.s.off = false
  u : X.u = false
  few : X.S.few (200 * K)
section
variable {w w' : World} {d t : Nat} {a : At} {X : DS} {N f e K : Nat}
theorem Disk1.zero (h : Disk1 w d t a X N f e K) : Disk0 w d t a X N f e K := ⟨h.dk, h.ok, h.on, h.u, h.few⟩
theorem Disk0.after (h : Disk0 w d t a X N f e K) (hb : Below w.heap.size w w') : Disk0 w' d t a X N f e K := ⟨h.dk.after hb, h.ok, h.on, h.u, h.few⟩
theorem Disk0.read (h : Disk0 w d t a X N f e K) {b k : Nat} (hb : b < N - 6) (hk : k < 8) :
    Calls Tryz.prog 24 #[.pointer (some ⟨d, 0, none⟩), .int .i64 (b : Int), .int .i64 (k : Int)] w fun er w' => er = .returned (.tuple #[.agg (cl ((X.blk b).pg.getD k [])), .int .i64 0]) ∧ Below w.heap.size w w' := by
  have k1 := dread_any h.dk h.u (b : Int) (k : Int)
  obtain ⟨ha, hl⟩ := at_lt h.ok hb
  have hm : X.pageE (b : Int) (k : Int) = 0 := by
    unfold DS.pageE
    rw [ha]
    exact may_here h.on h.ok.fine.live hl hk
  have e2 : X.page (b : Int) (k : Int) = (X.blk b).pg.getD k [] := by
    unfold DS.page Ch.readPage
    rw [hm, if_pos rfl, ha, Int.toNat_natCast, Int.toNat_natCast]
    rfl
  rw [hm, e2] at k1
  exact k1
theorem Disk0.noRead (h : Disk0 w d t a X N f e K) {b k : Int} (hbk : ¬ (0 ≤ b ∧ b < ((N - 6 : Nat) : Int) ∧ 0 ≤ k ∧ k < 8)) :
    Calls Tryz.prog 24 #[.pointer (some ⟨d, 0, none⟩), .int .i64 b, .int .i64 k] w fun er w' => er = .returned (.tuple #[.agg (cl pzeros), .int .i64 1]) ∧ Below w.heap.size w w' := by
  have k1 := dread_any h.dk h.u b k
  have hm : X.pageE b k = 1 := by
    apply may_val h.on h.ok.fine.live
    by_cases c : 0 ≤ b ∧ b < ((N - 6 : Nat) : Int)
    · intro q; exact hbk ⟨c.1, c.2, q.2.2⟩
    · rw [at_no h.ok.sz c]; omega
  have e2 : X.page b k = pzeros := by
    unfold DS.page Ch.readPage
    rw [hm, if_neg (by decide)]
  rw [hm, e2] at k1
  exact k1
theorem Disk0.plen (h : Disk0 w d t a X N f e K) {b k : Nat} (hb : b < N - 6) (hk : k < 8) : ((X.blk b).pg.getD k []).length = 258 := by
  obtain ⟨_, hl⟩ := at_lt h.ok hb
  exact pageOf_length h.dk.dev.pc.bg.2 hl hk
theorem page_new {w w2 w3 : World} (b2 : Below w.heap.size w w2) (g3 : (w2.alloc (.cells (cl pzeros) 54)).grownBy w3 (some w2.heap.size)) : Below w.heap.size w w3 :=
  (b2.alloc b2.size _).grown g3 (by rw [World.size_alloc]; exact Nat.le_succ_of_le b2.size) (fun k e => by have := Option.some.inj e; have := b2.size; omega)
set_option maxRecDepth 100000 in
set_option maxHeartbeats 32000000 in
theorem whole_any {m g : Nat} {Bs : List RB} (h : Disk0 w d t a X 24 f e K) (hR : RD w m g Bs) (hl : Bs.length = 18) (hfit : ∀ b k B, k < 8 → Bs[b]? = some B → Fit B k ((X.blk b).pg.getD k [])) :
    Calls Tryz.prog 13 #[.pointer (some ⟨d, 0, none⟩), .pointer (some ⟨m, 0, none⟩)] w fun e w' => e = .returned (.bool true) ∧ Below w.heap.size w w' := by
  have z := zeroPage
  have hsl := hR.sl
  rw [hl] at hsl
  have H := Lib.hid h
  have HR := Lib.hid hR
  have HL := Lib.hid hl
  have HF := Lib.hid hfit
  have HZL := Lib.hid pzeros_length
  clear h hR hl hfit
  go_enter Tryz.func13, Tryz.ntmps13
  go_wp2_with fail
  go_loopw [20] (fun i wr => ∃ j : Nat, j ≤ 18 ∧ i = .int .i64 j ∧ Below w.heap.size w wr) (fun i _ => 18 - (intOf i).toNat)
  case atStart => exact ⟨0, by omega, rfl, Below.refl _ _⟩
  case round =>
    rename_i wr
    obtain ⟨j, hj, rfl, hB⟩ := hrel
    by_cases hlt : j < 18
    · obtain ⟨W, hW⟩ : ∃ W, W = wr := ⟨_, rfl⟩
      subst hW
      have HB := Lib.hid hB
      have hj18 : (j : Int) < 18 := by omega
      clear hB hj
      go_wp2_with fail
      go_loopw [6] (fun i wr => ∃ k : Nat, k ≤ 8 ∧ i = .int .i64 k ∧ Below w.heap.size w wr) (fun i _ => 8 - (intOf i).toNat)
      case atStart => exact ⟨0, by omega, rfl, HB.out⟩
      case round =>
        rename_i wr
        obtain ⟨k, hk, rfl, hB⟩ := hrel
        clear HB
        by_cases hkl : k < 8
        · have kr := (H.out.after hB).read (b := j) (k := k) (by omega) hkl
          have hpl := H.out.plen (b := j) (k := k) (by omega) hkl
          have hft := HF.out j k _ hkl (List.getElem?_eq_getElem (by rw [HL.out]; exact hlt))
          have kf := fun (W : World) (hW : Below wr.heap.size wr W) => dfits_any (HR.out.after (hB.trans (hW.mono hB.size))) HL.out hlt hkl hpl hft
          obtain ⟨pg, hpg⟩ : ∃ pg, pg = (X.blk j).pg.getD k [] := ⟨_, rfl⟩
          rw [← hpg] at kr kf hpl
          have HPL := Lib.hid hpl
          have KF := Lib.hid kf
          have HB := Lib.hid hB
          have hk8 : (k : Int) < 8 := by omega
          clear hB hpl hft kf hpg hk
          go_wp2_with (first
            | ((with_reducible refine kr.mono ?_); rintro e w2 ⟨rfl, b2⟩; have N2 := PArr.new w2 pzeros_length)
            | ((with_reducible refine wpl_pstore (.tmp 7) (.tmp 32) rfl rfl N2 rfl HPL.out rfl ?_); intro w3 N3 g3 e3; have B3 := page_new b2 g3; have k3 := KF.out _ B3)
            | (with_reducible refine wpl_pload (.tmp 7) rfl rfl N3 rfl ?_)
            | ((with_reducible refine k3.mono ?_); rintro e w4 ⟨rfl, b4⟩))
          exact ⟨⟨k + 1, by omega, by go_num, (HB.out.trans (B3.mono HB.out.size)).trans (b4.mono (Nat.le_trans HB.out.size B3.size))⟩, by simp [intOf]; omega⟩
        · obtain rfl : k = 8 := by omega
          have HB := Lib.hid hB
          clear hB hk hkl
          go_wp2_with fail
          exact ⟨⟨j + 1, by omega, by go_num, HB.out⟩, by simp [intOf]; omega⟩
    · obtain rfl : j = 18 := by omega
      have k1 := (H.out.after hB).noRead (b := 18) (k := 0) (by omega)
      have k2 := fun (W : World) (hW : Below wr.heap.size wr W) => (H.out.after (hB.trans (hW.mono hB.size))).noRead (b := 0) (k := 8) (by omega)
      have k3 := fun (W : World) (hW : Below wr.heap.size wr W) => (H.out.after (hB.trans (hW.mono hB.size))).noRead (b := -1) (k := 0) (by omega)
      have kl := fun (W : World) (hW : Below wr.heap.size wr W) => dlen_any (H.out.after (hB.trans (hW.mono hB.size))).dk
      rw [H.out.ok.sz, show ((24 - 6 : Nat) : Int) = 18 from rfl] at kl
      have hc := (HR.out.after hB).sl
      rw [HL.out] at hc
      have hcs := fun (W : World) (hW : Below wr.heap.size wr W) => (HR.out.after (hB.trans (hW.mono hB.size))).sl
      rw [HL.out] at hcs
      have K2 := Lib.hid k2
      have K3 := Lib.hid k3
      have KL := Lib.hid kl
      have HC := Lib.hid hcs
      have HB := Lib.hid hB
      clear hB k2 k3 kl hcs hj hlt HF
      simp only [show ((18 : Nat) : Int) = 18 from rfl]
      go_wp2_with (first
        | ((with_reducible refine k1.mono ?_); rintro e w2 ⟨rfl, b2⟩; have N2 := PArr.new w2 pzeros_length)
        | ((with_reducible refine wpl_pstore (.tmp 9) (.tmp 53) rfl rfl N2 rfl HZL.out rfl ?_); intro w3 N3 g3 e3; have B3 := page_new b2 g3; have k4 := K2.out _ B3)
        | ((with_reducible refine k4.mono ?_); rintro e w4 ⟨rfl, b4⟩; have N4 := PArr.new w4 pzeros_length)
        | ((with_reducible refine wpl_pstore (.tmp 11) (.tmp 58) rfl rfl N4 rfl HZL.out rfl ?_); intro w5 N5 g5 e5; have B5 := B3.trans ((page_new b4 g5).mono B3.size); have k6 := K3.out _ B5)
        | ((with_reducible refine k6.mono ?_); rintro e w6 ⟨rfl, b6⟩; have N6 := PArr.new w6 pzeros_length)
        | ((with_reducible refine wpl_pstore (.tmp 13) (.tmp 63) rfl rfl N6 rfl HZL.out rfl ?_); intro w7 N7 g7 e7; have B7 := B5.trans ((page_new b6 g7).mono B5.size)))
      have k8 := KL.out _ B7.drew
      have S0 : w7.drew.cell? ⟨m, 0, none⟩ = some (.slice (some ⟨g, 0, none⟩) 18 18) := HC.out _ B7.drew
      clear N2 N3 N4 N5 N6 N7 g3 g5 g7 e3 e5 e7 b2 b4 b6 B3 B5 hc hsl
      refine wp_region_held_drew (S := fun w' => w'.cell? ⟨m, 0, none⟩ = some (.slice (some ⟨g, 0, none⟩) 18 18)) (by kernel_rfl) S0 (fun _ => ?_)
      refine wpAnyH_take (i := 0) (v := .int .i64 1) rfl (by kernel_rfl) (by kernel_rfl) (by kernel_rfl) (fun _ _ _ h => h) (Or.inl ⟨by kernel_rfl, fun w _ => by go_simp⟩) S0 ?_
      refine wpAnyH_take (i := 1) (v := .bool true) rfl (by kernel_rfl) (by kernel_rfl) (by kernel_rfl) (fun _ _ _ h => h) (Or.inl ⟨by kernel_rfl, fun w _ => by go_simp⟩) S0 ?_
      refine wpAnyH_take (i := 2) (v := .bool true) rfl (by kernel_rfl) (by kernel_rfl) (by kernel_rfl) (fun _ _ _ h => h) (Or.inl ⟨by kernel_rfl, fun w _ => by go_simp⟩) S0 ?_
      refine wpAnyH_take (i := 3) (v := .int .i64 1) rfl (by kernel_rfl) (by kernel_rfl) (by kernel_rfl) (fun _ _ _ h => h) (Or.inl ⟨by kernel_rfl, fun w _ => by go_simp⟩) S0 ?_
      refine wpAnyH_take (i := 4) (v := .bool true) rfl (by kernel_rfl) (by kernel_rfl) (by kernel_rfl) (fun _ _ _ h => h) (Or.inl ⟨by kernel_rfl, fun w _ => by go_simp⟩) S0 ?_
      refine wpAnyH_take (i := 5) (v := .bool true) rfl (by kernel_rfl) (by kernel_rfl) (by kernel_rfl) (fun _ _ _ h => h) (Or.inl ⟨by kernel_rfl, fun w _ => by go_simp⟩) S0 ?_
      refine wpAnyH_take (i := 6) (v := .bool true) rfl (by kernel_rfl) (by kernel_rfl) (by kernel_rfl) (fun _ _ _ h => h) (Or.inl ⟨by kernel_rfl, fun w _ => by go_simp⟩) S0 ?_
      refine wpAnyH_take (i := 7) (v := .int .i64 1) rfl (by kernel_rfl) (by kernel_rfl) (by kernel_rfl) (fun _ _ _ h => h) (Or.inl ⟨by kernel_rfl, fun w _ => by go_simp⟩) S0 ?_
      refine wpAnyH_take (i := 8) (v := .bool true) rfl (by kernel_rfl) (by kernel_rfl) (by kernel_rfl) (fun _ _ _ h => h) (Or.inl ⟨by kernel_rfl, fun w _ => by go_simp⟩) S0 ?_
      refine wpAnyH_take (i := 9) (v := .bool true) rfl (by kernel_rfl) (by kernel_rfl) (by kernel_rfl) (fun _ _ _ h => h) (Or.inl ⟨by kernel_rfl, fun w _ => by go_simp⟩) S0 ?_
      refine wpAnyH_take (i := 10) (v := .bool true) rfl (by kernel_rfl) (by kernel_rfl) (by kernel_rfl) (fun _ _ _ h => h) (Or.inl ⟨by kernel_rfl, fun w _ => by go_simp⟩) S0 ?_
      refine wpAnyH_take (i := 11) (v := .pointer (some ⟨d, 0, none⟩)) rfl (by kernel_rfl) (by kernel_rfl) (by kernel_rfl) (fun _ _ _ h => h) (Or.inl ⟨by kernel_rfl, fun w _ => by go_simp⟩) S0 ?_
      refine wpAnyH_take (i := 13) (v := .pointer (some ⟨m, 0, none⟩)) rfl (by kernel_rfl) (by kernel_rfl) (by kernel_rfl) (fun _ _ _ h => h) (Or.inl ⟨by kernel_rfl, fun w _ => by go_simp⟩) S0 ?_
      refine wpAnyH_take (i := 14) (v := .pointer (some ⟨m, 0, none⟩)) rfl (by kernel_rfl) (by kernel_rfl) (by kernel_rfl) (fun _ _ _ h => h) (Or.inl ⟨by kernel_rfl, fun w _ => by go_simp⟩) S0 ?_
      refine wpAnyH_take (i := 15) (v := .pointer (some ⟨m, 0, none⟩)) rfl (by kernel_rfl) (by kernel_rfl) (by kernel_rfl) (fun _ _ _ h => h) (Or.inl ⟨by kernel_rfl, fun w _ => by go_simp⟩) S0 ?_
      refine wpAnyH_take (i := 16) (v := .slice (some ⟨g, 0, none⟩) 18 18) rfl (by kernel_rfl) (by kernel_rfl) (by kernel_rfl) (fun _ _ _ h => h) (yields_one (ty := 59) (fun w => by kernel_rfl) (.tmp 80) (by kernel_rfl) (by kernel_rfl) (by kernel_rfl) (fun _ h => h)) S0 ?_
      refine wpAnyH_take (i := 17) (v := .int .i64 18) rfl (by kernel_rfl) (by kernel_rfl) (by kernel_rfl) (fun _ _ _ h => h) (Or.inl ⟨by kernel_rfl, fun w _ => by go_simp⟩) S0 ?_
      refine wpAnyH_ready (rs := [12]) (by kernel_rfl) (by simp) (AllReadyH.cons rfl (fun K hK => ?_) AllReadyH.nil)
      go_simp
      ((with_reducible refine k8.mono ?_); rintro e w' ⟨rfl, rfl⟩)
      refine hK.out _ _ S0 (fun _ => ?_)
      clear hK K k8
      refine wpAnyH_take (i := 18) (v := .bool true) rfl (by kernel_rfl) (by kernel_rfl) (by kernel_rfl) (fun _ _ _ h => h) (Or.inl ⟨by kernel_rfl, fun w _ => by go_simp⟩) S0 ?_
      refine wpAnyH_take (i := 19) (v := .bool true) rfl (by kernel_rfl) (by kernel_rfl) (by kernel_rfl) (fun _ _ _ h => h) (Or.inl ⟨by kernel_rfl, fun w _ => by go_simp⟩) S0 ?_
      refine wpAnyH_take (i := 20) (v := .bool true) rfl (by kernel_rfl) (by kernel_rfl) (by kernel_rfl) (fun _ _ _ h => h) (Or.inl ⟨by kernel_rfl, fun w _ => by go_simp⟩) S0 ?_
      refine wpAnyH_done (by kernel_rfl) ?_ _
      clear S0
      go_wp2_with fail
      go_ret
      exact ⟨rfl, HB.out.trans (B7.drew.mono HB.out.size)⟩
end
end Go.Proofs.YtaafelhjcmgkdaaGreatDoor

