/- Several texts of the proof, joined: what each has is said at its head. -/
import Derived.Test.YtdiocjneakfdgaaGreatDoorQCore
import Derived.Test.YtdiocjneakfdgaaGreatDoorQHam
import Derived.Laws.CopyRow
import Derived.Laws.IdiomCopy
import Derived.Deep.RegionLaw
import Derived.Test.YtdiocjneakfdgaaGreatDoorQCrc
import Derived.Deep.RegionHeld3
import Derived.Test.YtdiocjneakfdgaaGreatDoorQAppendBy
import Derived.Deep.QuietTactic
import Derived.BigQuiet
/- copy of bytes into an array that lies in a block of its own. No condition. -/
namespace Go.Proofs.YtdiocjneakfdgaaGreatDoor
open Go.RowKit
/-- m laid over L from the place o on -/
def lay (L : List UInt8) (o : Nat) (m : List UInt8) : List UInt8 := L.take o ++ m ++ L.drop (o + m.length)
theorem lay_length {L m : List UInt8} {o : Nat} (h : o + m.length ≤ L.length) : (lay L o m).length = L.length := by
  simp [lay]
  omega
theorem lay_nil {L : List UInt8} {o : Nat} : lay L o [] = L := by simp [lay]
section
variable {P : Program} {w : World} {g : Nat} {t T E : TypeId} {L l m : List UInt8}
theorem run_copy_cl (hT : OneCell P T E (.int .u8 0) 1) (hg : w.heap[g]? = some (.cells (cl L) t (0, 0))) (o dLen dCap B : Nat) (u : Value) (hu : Bytes w B u l) (hm : l.take dLen = m) (hfit : o + m.length ≤ L.length) (ty : TypeId) :
    ∃ w', (Builtin.copy_ #[T, T] ty #[.slice (some ⟨g, o, none⟩) dLen dCap, u]).run P w = .ok (.int .i64 (m.length : Int)) w' ∧ w'.heap[g]? = some (.cells (cl (lay L o m)) t (0, 0)) ∧ w.grownBy w' (some g) ∧ w'.heap.size = w.heap.size := by
  obtain ⟨i, hi, _, hs, hby⟩ := hT.hi
  have hsz : (P.info? E).map (·.size) = some 1 := by rw [hi]; simp [hs]
  obtain ⟨A, c, rfl, _, _, hr⟩ := hu
  by_cases h0 : m = []
  · subst h0
    have hn : Nat.min l.length dLen = 0 := by
      have := congrArg List.length hm
      simp only [List.length_take, List.length_nil] at this
      show min l.length dLen = 0
      omega
    refine ⟨w, run_copy_none (P := P) w T T ty E _ A dLen dCap l.length c hT.ht hsz hn, by rw [lay_nil]; exact hg, World.grownBy.refl w _, rfl⟩
  · have hl : m.length = min l.length dLen := by rw [← hm, List.length_take]; omega
    have hpos : 0 < m.length := by cases m with | nil => exact absurd rfl h0 | cons => simp
    obtain ⟨a, rfl, _, _⟩ := hr.at_ (k := 0) (by rw [bv_length]; omega)
    have hbm : bv m = (bv l).take dLen := by rw [← hm]; simp [bv]
    have hrun := run_copy_row (P := P) w T T ty E g o dLen dCap a l.length c (cl L) t (bv m) hT.ht hsz hg (by rw [bv_length]; exact hl) (fun j v hj => by
      have hj' : j < m.length := by have := get_lt hj; rwa [bv_length] at this
      rw [hbm, List.getElem?_take, if_pos (by omega)] at hj
      obtain ⟨a', e, _, hc⟩ := hr j v hj
      cases e
      exact hc) (by rw [bv_length, cl_size]; exact hfit) (fun v hv => bv_one hv)
    rw [bv_length] at hrun
    have hcells : ((cl L).toList.take o ++ bv m ++ (cl L).toList.drop (o + m.length)).toArray = cl (lay L o m) := by
      apply Array.toList_inj.1
      rw [cl_list, cl_list]
      simp [lay, bv]
    rw [hcells] at hrun
    exact ⟨_, hrun, setRow_heap w g (cl L) _ t _ hg, ⟨rfl, rfl, rfl, by simp, fun k _ hk => setRow_other w g k _ (by simpa using hk)⟩, by simp⟩
/-- at the operation -/
theorem wpl_copy {ops : Array Oper} {rest : List Oper} {o : Oper} {a : Act} {Q : Exit → Act → World → Prop} (hT : OneCell P T E (.int .u8 0) 1) (hgd : Region.wanted o (yielded ops a.tmps) = true) (d s : Operand)
    (ho : o.op = .call { callee := .builtin .copy, args := #[d, s], argTypes := #[T, T] })
    (hg : w.heap[g]? = some (.cells (cl L) t (0, 0))) (p dLen dCap : Nat) (hd : a.eval d = .slice (some ⟨g, p, none⟩) dLen dCap) (u : Value) (hs : a.eval s = u) (B : Nat) (hu : Bytes w B u l) (hm : l.take dLen = m) (hfit : p + m.length ≤ L.length) (k : Nat) (hk : m.length = k)
    (h : ∀ w', Hid (w'.heap[g]? = some (.cells (cl (lay L p m)) t (0, 0))) → w.grownBy w' (some g) → w'.heap.size = w.heap.size → wpList P ops Q rest (a.put o.dst (.int .i64 (k : Int))) w') : wpList P ops Q (o :: rest) a w := by
  obtain ⟨w', hrun, h1, h2, h3⟩ := run_copy_cl hT hg p dLen dCap B u hu hm hfit o.type
  rw [hk] at hrun
  refine BigFrame.wpList_want hgd fun K hK => ?_
  unfold Oper.wp execOp
  simp only [ho, resolve, invoke, builtin, Sem.run_bind, Sem.run_pure, Result.andThen_ok, List.map_toArray, List.map_cons, List.map_nil, hd, hs, hrun]
  exact hK _ _ (h w' (Lib.hid h1) h2 h3)
/-- at a step of a region that draws its order -/
theorem step_copy {ops : Array Oper} {o : Oper} {a : Act} {K : Act → World → Prop} {Q : Exit → Act → World → Prop} {F : Prop} (hT : OneCell P T E (.int .u8 0) 1) (hgd : Region.wanted o (yielded ops a.tmps) = true) (d s : Operand)
    (ho : o.op = .call { callee := .builtin .copy, args := #[d, s], argTypes := #[T, T] })
    (hg : w.heap[g]? = some (.cells (cl L) t (0, 0))) (p dLen dCap : Nat) (hd : a.eval d = .slice (some ⟨g, p, none⟩) dLen dCap) (u : Value) (hs : a.eval s = u) (B : Nat) (hu : Bytes w B u l) (hm : l.take dLen = m) (hfit : p + m.length ≤ L.length) (k : Nat) (hk : m.length = k)
    (h : ∀ w', Hid (w'.heap[g]? = some (.cells (cl (lay L p m)) t (0, 0))) → w.grownBy w' (some g) → w'.heap.size = w.heap.size → K (a.put o.dst (.int .i64 (k : Int))) w') :
    if Region.wanted o (yielded ops a.tmps) = true then Oper.wp P o a w K Q else F := by
  rw [if_pos hgd]
  obtain ⟨w', hrun, h1, h2, h3⟩ := run_copy_cl hT hg p dLen dCap B u hu hm hfit o.type
  rw [hk] at hrun
  unfold Oper.wp execOp
  simp only [ho, resolve, invoke, builtin, Sem.run_bind, Sem.run_pure, Result.andThen_ok, List.map_toArray, List.map_cons, List.map_nil, hd, hs, hrun]
  exact h w' (Lib.hid h1) h2 h3
end
end Go.Proofs.YtdiocjneakfdgaaGreatDoor

/- Plain mathematics of records as pages: the page of a record, whether a page is blank, what a page reads as. No program, no condition. -/
namespace Go.Proofs.YtdiocjneakfdgaaGreatDoor.FM
open Go

/-- the first 252 bytes of a record's data -/
def rec252 (kind : UInt8) (body : List UInt8) : List UInt8 := kind :: UInt8.ofNat body.length :: (body ++ List.replicate (250 - body.length) 0)
/-- a record's data -/
def dat (kind : UInt8) (body : List UInt8) : List UInt8 := rec252 kind body ++ numB 4 (CM.on 0 (rec252 kind body))
/-- a record's page -/
def page (kind : UInt8) (body : List UInt8) : List UInt8 := dat kind body ++ [UInt8.ofNat (HM.ck (dat kind body)), UInt8.ofNat (HM.ck (dat kind body) / 256)]
theorem rec252_length (kind : UInt8) (body : List UInt8) (h : body.length ≤ 240) : (rec252 kind body).length = 252 := by
  simp [rec252]
  omega
theorem dat_length (kind : UInt8) (body : List UInt8) (h : body.length ≤ 240) : (dat kind body).length = 256 := by
  unfold dat
  rw [List.length_append, rec252_length kind body h, numB_length]
theorem page_length (kind : UInt8) (body : List UInt8) (h : body.length ≤ 240) : (page kind body).length = 258 := by
  unfold page
  rw [List.length_append, dat_length kind body h]
  rfl
/-- what Write answers: a page, and the error's number -/
def writeM (kind : UInt8) (body : List UInt8) : List UInt8 × Nat :=
  if kind = 0 ∨ kind = 255 ∨ 240 < body.length then (List.replicate 258 0, 1) else (page kind body, 0)
/-- how many of the first n bits are 0 -/
def zc (p : List UInt8) : Nat → Nat
  | 0 => 0
  | n + 1 => zc p n + (1 - HM.bt p n)
def blank (p : List UInt8) : Bool := decide (zc p 2064 < 2)
/-- how many of the three highest bits of the last byte are 1 -/
def above (p : List UInt8) : Nat := HM.popT ((p.getD 257 0).toNat / 32) 3
def chk (p : List UInt8) : Nat := (p.getD 256 0).toNat + 256 * (p.getD 257 0).toNat
/-- from the place a on all of the first 252 bytes are noughts -/
def nought (x : List UInt8) (a : Nat) : Bool := (List.range 252).all fun i => decide (i < a) || x.getD i 0 == 0
theorem nought_iff (x : List UInt8) (a : Nat) : nought x a = true ↔ ∀ i, i < 252 → a ≤ i → x.getD i 0 = 0 := by
  unfold nought
  rw [List.all_eq_true]
  constructor
  · intro h i hi ha
    have := h i (List.mem_range.2 hi)
    simp only [Bool.or_eq_true, decide_eq_true_eq, beq_iff_eq] at this
    rcases this with e | e
    · omega
    · exact e
  · intro h i hi
    simp only [Bool.or_eq_true, decide_eq_true_eq, beq_iff_eq]
    by_cases ha : i < a
    · exact .inl ha
    · exact .inr (h i (List.mem_range.1 hi) (by omega))
/-- what a record's data read as, when so many bits were mended -/
def openM (x : List UInt8) (n : Nat) : UInt8 × List UInt8 × Nat × Nat :=
  if 240 < (x.getD 1 0).toNat ∨ x.getD 0 0 = 0 ∨ x.getD 0 0 = 255 then (0, [], 0, 21)
  else if nought x (2 + (x.getD 1 0).toNat) = true then
    (if numB 4 (CM.on 0 (x.take 252)) = x.drop 252 then (x.getD 0 0, (x.drop 2).take (x.getD 1 0).toNat, n, 0) else (0, [], 0, 21))
  else (0, [], 0, 21)
/-- what Read answers: kind, body, how many bits were mended, the error's number -/
def readM (p : List UInt8) : UInt8 × List UInt8 × Nat × Nat :=
  if blank p = true then (0, [], 0, 20)
  else if 1 < above p then (0, [], 0, 21)
  else if (HM.fixM (p.take 256) (chk p)).2.2 ≠ 0 then (0, [], 0, 21)
  else openM (HM.fixM (p.take 256) (chk p)).1 ((HM.fixM (p.take 256) (chk p)).2.1 + above p)
/-- an array filled place by place -/
def fill (pre src : List UInt8) (tot k : Nat) : List UInt8 := pre ++ (src.take k ++ List.replicate (tot - k) 0)
theorem fill_length (pre src : List UInt8) (tot k : Nat) (hk : k ≤ src.length) (ht : src.length ≤ tot) : (fill pre src tot k).length = pre.length + tot := by
  simp [fill]
  omega
theorem fill_zero (pre src : List UInt8) (tot : Nat) : fill pre src tot 0 = pre ++ List.replicate tot 0 := by simp [fill]
theorem fill_all (pre src : List UInt8) (tot : Nat) : fill pre src tot src.length = pre ++ (src ++ List.replicate (tot - src.length) 0) := by simp [fill]
theorem zeros_two (a b : UInt8) (body : List UInt8) : (HM.zeros.set 0 a).set 1 b = fill [a, b] body 254 0 := by
  rw [fill_zero]
  rfl
theorem fill_rec (kind : UInt8) (body sum : List UInt8) (h : body.length ≤ 240) : fill [kind, UInt8.ofNat body.length] body 254 body.length = fill (rec252 kind body) sum 4 0 := by
  rw [fill_all, fill_zero]
  unfold rec252
  have e : 254 - body.length = (250 - body.length) + 4 := by omega
  rw [e, ← List.replicate_append_replicate]
  simp
theorem fill_dat (kind : UInt8) (body : List UInt8) : fill (rec252 kind body) (numB 4 (CM.on 0 (rec252 kind body))) 4 4 = dat kind body := by
  have := fill_all (rec252 kind body) (numB 4 (CM.on 0 (rec252 kind body))) 4
  rw [numB_length] at this
  rw [this]
  simp [dat]
end Go.Proofs.YtdiocjneakfdgaaGreatDoor.FM

/- The contracts of the reference's Blank and Write; nothing that was there is changed. No condition but the array's length. -/
namespace Go.Proofs.YtdiocjneakfdgaaGreatDoor
open Go.RowKit
theorem bv_take (L : List UInt8) (n : Nat) : bv (L.take n) = (bv L).take n := by simp [bv]
/-- the first bytes of an array as a slice -/
theorem arr_bytes {w : World} {g n : Nat} {L X : List UInt8} (hA : Arr w g L) (hX : L.take n = X) (hn : X.length = n) (h : n ≤ 256) : Bytes w w.heap.size (.slice (some ⟨g, 0, none⟩) n 256) X :=
  ⟨some ⟨g, 0, none⟩, 256, by rw [hn], by omega, by simp [maxLen], fun j u hu => by
    refine ⟨_, rfl, hA.lt, ?_⟩
    have hadd : (⟨g, 0, none⟩ : Addr).add j = ⟨g, j, none⟩ := by unfold Addr.add; split <;> simp_all
    rw [hadd, hA.cell, ← Array.getElem?_toList, cl_list]
    have hj : j < n := by have := get_lt hu; rw [bv_length, hn] at this; exact this
    rw [← hX, bv_take, List.getElem?_take, if_pos hj] at hu
    exact hu⟩
/-- some bytes of an array as a slice -/
theorem arr_mid {w : World} {g o n c : Nat} {L X : List UInt8} (hA : Arr w g L) (hX : (L.drop o).take n = X) (hn : X.length = n) (hc : n ≤ c) (h : c ≤ 256) : Bytes w w.heap.size (.slice (some ⟨g, o, none⟩) n c) X :=
  ⟨some ⟨g, o, none⟩, c, by rw [hn], by omega, by simp only [maxLen]; omega, fun j u hu => by
    refine ⟨_, rfl, hA.lt, ?_⟩
    have hadd : (⟨g, o, none⟩ : Addr).add j = ⟨g, o + j, none⟩ := by unfold Addr.add; split <;> simp_all
    rw [hadd, hA.cell, ← Array.getElem?_toList, cl_list]
    have hj : j < n := by have := get_lt hu; rw [bv_length, hn] at this; exact this
    have e : bv X = ((bv L).drop o).take n := by rw [← hX]; simp [bv]
    rw [e, List.getElem?_take, if_pos hj, List.getElem?_drop] at hu
    exact hu⟩
/-- an empty row of bytes in block g -/
def Emp (w : World) (g : Nat) : Prop := w.heap[g]? = some (.cells #[] 5 (0, 0))
theorem pbyte_at (L : List UInt8) (hL : L.length = 258) {k : Nat} (hk : k < 258) : ∃ b : Nat, b < 256 ∧ (cl L)[k]? = some (.int .u8 (b : Int)) ∧ Hid (b = (L.getD k 0).toNat) := by
  have h := cl_get (l := L) (k := k) (by omega)
  refine ⟨_, L[k].toNat_lt, h, Lib.hid ?_⟩
  rw [List.getD_eq_getElem?_getD, List.getElem?_eq_getElem (by omega), Option.getD_some]
end Go.Proofs.YtdiocjneakfdgaaGreatDoor

/- The contracts of frame's fits and Blank. No condition but the array's length. -/
namespace Go.Proofs.YtdiocjneakfdgaaGreatDoor
open Go.RowKit
theorem fits_any (k : Nat) (n : Int) (w : World) : Calls Tryz.prog 57 #[.int .u8 (k : Int), .int .i64 n] w fun e w' => e = .returned (.bool (decide (1 ≤ k ∧ k ≤ 254 ∧ n ≤ 240))) ∧ w = w' := by
  by_cases h1 : 1 ≤ k
  · have d1 : decide ((1 : Int) ≤ (k : Int)) = true := by simp; omega
    by_cases h2 : k ≤ 254
    · have d2 : decide ((k : Int) ≤ 254) = true := by simp; omega
      by_cases h3 : n ≤ 240
      · have d3 : decide (n ≤ 240) = true := by simp [h3]
        rw [decide_eq_true ⟨h1, h2, h3⟩]
        clear h1 h2 h3
        go_enter Tryz.func57, Tryz.ntmps57
        go_wp2_with fail
        go_ret
        exact ⟨rfl, rfl⟩
      · have d3 : decide (n ≤ 240) = false := by simp; omega
        rw [decide_eq_false (fun h => h3 h.2.2)]
        clear h1 h2 h3
        go_enter Tryz.func57, Tryz.ntmps57
        go_wp2_with fail
        go_ret
        exact ⟨rfl, rfl⟩
    · have d2 : decide ((k : Int) ≤ 254) = false := by simp; omega
      rw [decide_eq_false (fun h => h2 h.2.1)]
      clear h1 h2
      go_enter Tryz.func57, Tryz.ntmps57
      go_wp2_with fail
      go_ret
      exact ⟨rfl, rfl⟩
  · have d1 : decide ((1 : Int) ≤ (k : Int)) = false := by simp; omega
    rw [decide_eq_false (fun h => h1 h.1)]
    clear h1
    go_enter Tryz.func57, Tryz.ntmps57
    go_wp2_with fail
    go_ret
    exact ⟨rfl, rfl⟩
namespace FM
theorem zc_byte (p : List UInt8) (i : Nat) : ∀ k, k ≤ 8 → zc p (8 * i + k) + HM.popT (p.getD i 0).toNat k = zc p (8 * i) + k
  | 0, _ => rfl
  | k + 1, h => by
    have ih := zc_byte p i k (by omega)
    have e := HM.bit_byte p i k (by omega)
    have e1 : zc p (8 * i + (k + 1)) = zc p (8 * i + k) + (1 - HM.bt p (8 * i + k)) := rfl
    have e2 : HM.popT (p.getD i 0).toNat (k + 1) = HM.popT (p.getD i 0).toNat k + (p.getD i 0).toNat / 2 ^ k % 2 := rfl
    have e3 := HM.mod2 ((p.getD i 0).toNat / 2 ^ k)
    omega
theorem zc_mono (p : List UInt8) (a : Nat) : ∀ k, zc p a ≤ zc p (a + k)
  | 0 => Nat.le_refl _
  | k + 1 => by
    have := zc_mono p a k
    have e : zc p (a + (k + 1)) = zc p (a + k) + (1 - HM.bt p (a + k)) := rfl
    omega
theorem pop_not : ∀ b : Fin 256, HM.popT (255 - b.val) 8 + HM.popT b.val 8 = 8 := by decide +kernel
end FM
theorem index_page {L : List UInt8} (hL : L.length = 258) {k : Nat} (hk : k < 258) {b : Nat} (hb : b = (L.getD k 0).toNat) (w : World) : (Instr.index 92 (.agg (cl L)) (.int .i64 (k : Int))).run Tryz.prog w = .ok (.int .u8 (b : Int)) w := by
  have h1 := ppart_at hL hk w
  have h2 : (sizeOf 5).run Tryz.prog w = .ok 1 w := by kernel_rfl
  rw [← hb] at h1
  have hn : 0 ≤ (k : Int) ∧ (k : Int) < ((258 : Nat) : Int) := by omega
  have h3 : (k : Int).toNat * 1 = k := by omega
  simp only [Instr.index, run_underlying Tryz.underlying92, asIntOf, Sem.run_bind, Sem.run_pure, Result.andThen_ok, if_pos hn, h2, h3, h1]
theorem xor255 : ∀ b : Fin 256, bits .xor .u8 255 (b.val : Int) = ((255 - b.val : Nat) : Int) := by decide +kernel
set_option maxRecDepth 100000 in
set_option maxHeartbeats 4000000 in
theorem blank_any (L : List UInt8) (hL : L.length = 258) (w : World) : Calls Tryz.prog 76 #[.agg (cl L)] w fun e w' => e = .returned (.bool (FM.blank L)) ∧ Below w.heap.size w w' := by
  have P0 := Lib.hid (PArr.new w hL)
  go_enter Tryz.func76, Tryz.ntmps76
  go_wp2_with (with_reducible refine wpl_pload (.tmp 1) rfl rfl P0.out rfl ?_)
  go_loop [3, 7] (fun n i => ∃ k : Nat, k ≤ 258 ∧ i = .int .i64 k ∧ n = .int .i64 ((FM.zc L (8 * k) : Nat) : Int) ∧ FM.zc L (8 * k) ≤ 1) (fun _ i => 258 - (intOf i).toNat)
  case atStart => exact ⟨0, by omega, rfl, rfl, Nat.zero_le _⟩
  case round =>
    obtain ⟨k, hk, rfl, rfl, hm⟩ := hrel
    obtain ⟨M, hM⟩ : ∃ M, M = FM.zc L (8 * k) := ⟨_, rfl⟩
    rw [← hM] at hm ⊢
    have HM0 := Lib.hid hM
    clear hM
    by_cases hlt : k < 258
    · obtain ⟨b, hb, hc, HB⟩ := pbyte_at L hL hlt
      have dk : decide ((k : Int) < 258) = true := by simp; omega
      have hx : bits .xor .u8 IntKind.u8.max (b : Int) = ((255 - b : Nat) : Int) := xor255 ⟨b, hb⟩
      obtain ⟨nb, hnb⟩ : ∃ nb, nb = 255 - b := ⟨_, rfl⟩
      rw [← hnb] at hx
      have k1 := ones8 nb (by omega)
      obtain ⟨z, hz⟩ : ∃ z, z = HM.popT nb 8 := ⟨_, rfl⟩
      rw [← hz] at k1
      have hz8 : z ≤ 8 := hz ▸ HM.popT_le _ _
      have hnext : Hid (FM.zc L (8 * (k + 1)) = M + z) := Lib.hid (by
        have h1 := FM.zc_byte L k 8 (Nat.le_refl _)
        have h2 := FM.pop_not ⟨b, hb⟩
        simp only at h2
        rw [← HB.out] at h1
        rw [← HM0.out] at h1
        rw [show 8 * (k + 1) = 8 * k + 8 by omega]
        rw [hz, hnb]
        omega)
      have hi := index_page hL hlt HB.out
      have hsg : IntKind.u8.signed = false := rfl
      clear hnb hz hc
      go_wp2_with fail
      ((with_reducible refine (k1 _).mono ?_); rintro e w' ⟨rfl, rfl⟩)
      clear k1 hx hi hsg
      by_cases h1 : 1 < M + z
      · have d1 : decide ((1 : Int) < (M : Int) + (z : Int)) = true := by simp; omega
        have hd : FM.blank L = false := decide_eq_false (by
          have e := hnext.out
          have e2 := FM.zc_mono L (8 * (k + 1)) (2064 - 8 * (k + 1))
          rw [show 8 * (k + 1) + (2064 - 8 * (k + 1)) = 2064 by omega] at e2
          omega)
        have HD := Lib.hid hd
        clear hd
        go_wp2
        (try simp only [Exit.inBlock, Exit.then])
        go_ret
        rw [HD.out]
        exact ⟨rfl, (Below.refl _ _).alloc (Nat.le_refl _) _⟩
      · have d1 : decide ((1 : Int) < (M : Int) + (z : Int)) = false := by simp; omega
        go_wp2
        go_round
        case rel => exact ⟨k + 1, by omega, by go_num, by rw [hnext.out]; go_num, by rw [hnext.out]; omega⟩
        case measure => simp [intOf]; omega
    · obtain rfl : k = 258 := by omega
      have hd : FM.blank L = true := decide_eq_true (by have e := HM0.out; rw [show 8 * 258 = 2064 from rfl] at e; omega)
      have HD := Lib.hid hd
      clear hd
      have dk : decide (((258 : Nat) : Int) < 258) = false := by decide
      go_wp2_with fail
      go_ret
      rw [HD.out]
      exact ⟨rfl, (Below.refl _ _).alloc (Nat.le_refl _) _⟩
end Go.Proofs.YtdiocjneakfdgaaGreatDoor

/- The contract of frame's record: the data of a record. Condition: the table holds its sixteen numbers; a body of at most 240 bytes. -/
namespace Go.Proofs.YtdiocjneakfdgaaGreatDoor
open Go.RowKit
namespace FM
theorem lay_fill {pre body m : List UInt8} {tot j : Nat} (hj : j ≤ body.length) (ht : body.length ≤ tot) (hm : (body.drop j).take m.length = m) (hm2 : j + m.length ≤ body.length) : lay (fill pre body tot j) (pre.length + j) m = fill pre body tot (j + m.length) := by
  unfold lay fill
  have h1 : (pre ++ (body.take j ++ List.replicate (tot - j) 0)).take (pre.length + j) = pre ++ body.take j := by
    rw [List.take_append, List.take_of_length_le (Nat.le_add_right _ _), Nat.add_sub_cancel_left, List.take_append_of_le_length (by rw [List.length_take]; omega), List.take_of_length_le (by rw [List.length_take]; omega)]
  have h2 : (pre ++ (body.take j ++ List.replicate (tot - j) 0)).drop (pre.length + j + m.length) = List.replicate (tot - (j + m.length)) 0 := by
    rw [List.drop_append, List.drop_of_length_le (by omega), List.nil_append, show pre.length + j + m.length - pre.length = j + m.length by omega, List.drop_append, List.drop_of_length_le (by rw [List.length_take]; omega), List.nil_append, List.drop_replicate]
    congr 1
    rw [List.length_take]
    omega
  rw [h1, h2]
  have h3 : body.take (j + m.length) = body.take j ++ m := by
    rw [List.take_add, hm]
  rw [h3]
  simp
end FM
/-- a result that is an array -/
theorem ret1 {fn : Func} {p : Tmp} {w : World} {g : Nat} {L : List UInt8} (h : fn.results = #[.cell p 129]) (tmps : Array Value) (hA : Arr w g L) (hp : tmps.getD p undef = .pointer (some ⟨g, 0, none⟩)) :
    (results fn tmps).run Tryz.prog w = .ok (.agg (cl L)) w := by
  have hp' : tmps[p]?.getD undef = .pointer (some ⟨g, 0, none⟩) := by simpa using hp
  simp [results, h, hp', asAddr, hA.load]
set_option maxRecDepth 100000 in
set_option maxHeartbeats 8000000 in
theorem record_any (kind : UInt8) (body : List UInt8) (v : Value) (L : List (List UInt8)) (hLb : L.flatten = body) (hb : body.length ≤ 240) (w : World) (B : Nat) (hB : B ≤ w.heap.size) (hp : Parts w B v L) (ht : Tab w) :
    Calls Tryz.prog 58 #[.int .u8 ((kind.toNat : Nat) : Int), .int .i64 (body.length : Int), v] w fun e w' => e = .returned (.agg (cl (FM.dat kind body))) ∧ Below w.heap.size w w' := by
  have z := zeroData
  obtain ⟨A, c, vs, rfl, hr, he, hvl⟩ := hp
  unfold maxLen at hvl
  have R0 := arr_one w HM.zeros_length HM.zeros
  have D0 := arr_two w HM.zeros HM.zeros_length
  have B0 := Lib.hid (hb_two w HM.zeros HM.zeros)
  obtain ⟨bl, hbl⟩ : ∃ bl, bl = UInt8.ofNat body.length := ⟨_, rfl⟩
  have hbl2 : (body.length : Int) = ((bl.toNat : Nat) : Int) := by
    rw [hbl, UInt8.toNat_ofNat']
    omega
  have HBL0 := Lib.hid hbl
  have HT := Lib.hid ht
  have HSET : Hid (((cl HM.zeros).setIfInBounds 0 (.int .u8 ((kind.toNat : Nat) : Int))).setIfInBounds 1 (.int .u8 (body.length : Int)) = cl (FM.fill [kind, bl] body 254 0)) := Lib.hid (by
    rw [hbl2, cl_set, cl_set, FM.zeros_two kind bl body])
  have hfl : (FM.fill [kind, bl] body 254 0).length = 256 := FM.fill_length _ _ _ _ (Nat.zero_le _) (by omega)
  have hfull : L.take vs.length = L := by rw [he.1]; exact List.take_length
  have HF := Lib.hid hfull
  have HLB := Lib.hid hLb
  have HT2 := Lib.hid (flat_take_le L)
  clear hbl hbl2 ht hfull
  go_enter Tryz.func58, Tryz.ntmps58
  go_wp2_with (refine wpl_store (.tmp 7) (.tmp 14) rfl rfl D0.out rfl hfl (congrArg Value.agg HSET.out) ?_; intro w4 D4 g4 e4)
  have R4 := Lib.hid (R0.out.grown g4 (by omega))
  have B4 := Lib.hid (B0.out.grown g4 B0.out.size (fun k e => by cases e; omega))
  have D4 := Lib.hid D4
  clear R0 D0 B0 g4 e4 HSET hfl
  go_loopw [8, 17] (fun z i wr => ∃ k : Nat, k ≤ vs.length ∧ i = .int .i64 k ∧ z = .int .i64 ((2 + (L.take k).flatten.length : Nat) : Int) ∧ Arr wr (w.heap.size + 1) (FM.fill [kind, bl] body 254 (L.take k).flatten.length) ∧ Arr wr w.heap.size HM.zeros ∧ Below w.heap.size w wr) (fun _ i _ => vs.length - (intOf i).toNat)
  case atStart => exact ⟨0, Nat.zero_le _, rfl, rfl, D4.out, R4.out, B4.out⟩
  case round =>
    obtain ⟨k, hk, rfl, rfl, hD, hR, hBe⟩ := hrel
    have HD := Lib.hid hD
    have HR := Lib.hid hR
    have HBe := Lib.hid hBe
    clear hD hR hBe D4 R4 B4
    by_cases hlt : k < vs.length
    · obtain ⟨a, rfl, hab, hcell⟩ := hr.at_ hlt
      obtain ⟨l, hl, hbyt⟩ := he.at_ hlt
      have hc2 := (HBe.out.cell (p := a.add k) (by rw [add_block]; omega)).trans hcell
      have e : (L.take (k + 1)).flatten = (L.take k).flatten ++ l := by rw [take_snoc L hl, List.flatten_append]; simp
      have hle := HT2.out (k + 1)
      rw [e, List.length_append, HLB.out] at hle
      obtain ⟨j, hj⟩ : ∃ j, j = (L.take k).flatten.length := ⟨_, rfl⟩
      have hpre : (body.drop j).take l.length = l := by
        have e3 : body = (L.take (k + 1)).flatten ++ (L.drop (k + 1)).flatten := by rw [← List.flatten_append, List.take_append_drop, HLB.out]
        rw [e3, e, List.append_assoc, hj, List.drop_left, List.take_left]
      have HLF : Hid (lay (FM.fill [kind, bl] body 254 j) (2 + j) l = FM.fill [kind, bl] body 254 (j + l.length)) := Lib.hid (FM.lay_fill (pre := [kind, bl]) (by omega) (by omega) hpre (by omega))
      have HE : Hid ((L.take (k + 1)).flatten.length = j + l.length) := Lib.hid (by rw [e, List.length_append, hj])
      rw [← hj] at HD hle ⊢
      obtain ⟨u, hu⟩ : ∃ u, u = vs[k] := ⟨_, rfl⟩
      rw [← hu] at hc2 hbyt
      have DY := Lib.hid (hbyt.keep (w' := wr) fun p hp => HBe.out.cell (by omega))
      obtain ⟨Ai, ci, hv, hlc, hcm, hrow⟩ := hbyt
      rw [hv] at hc2 DY
      unfold maxLen at hcm
      clear hcell hpre hj e hu hl hrow hv
      have hAr := Lib.hid HD.out.1
      have ww1 : (2 : Int) + (j : Int) ≤ 256 := by omega
      have ww2 : (0 : Int) ≤ 2 + (j : Int) := by omega
      have ww3 : (2 + (j : Int)).toNat = 2 + j := by omega
      have ww4 : ¬ 256 = 2 + j := by omega
      have hle2 : l.length ≤ 256 - (2 + j) := by omega
      go_wp2_with (refine wpl_copy byteTys rfl (.tmp 23) (.tmp 24) rfl hAr.out (2 + j) (256 - (2 + j)) _ rfl _ rfl B DY.out (List.take_of_length_le hle2) (by rw [FM.fill_length _ _ _ _ (by omega) (by omega)]; simp; omega) l.length rfl ?_; intro w7 h7 g7 e7)
      have D7 : Arr w7 (w.heap.size + 1) (FM.fill [kind, bl] body 254 (j + l.length)) := ⟨by rw [← HLF.out]; exact h7.out, FM.fill_length _ _ _ _ (by omega) (by omega)⟩
      have R7 := HR.out.grown g7 (by omega)
      have B7 := HBe.out.grown g7 HBe.out.size (fun k e => by cases e; omega)
      exact ⟨⟨k + 1, by omega, by go_num, by rw [HE.out]; go_num, by rw [HE.out]; exact D7, R7, B7⟩, by simp [intOf]; omega⟩
    · obtain rfl : k = vs.length := by omega
      rw [HF.out, HLB.out] at HD ⊢
      obtain ⟨X, hX⟩ : ∃ X, X = FM.rec252 kind body := ⟨_, rfl⟩
      obtain ⟨n, hn⟩ : ∃ n, n = CM.on 0 X := ⟨_, rfl⟩
      have hXL : X.length = 252 := hX ▸ FM.rec252_length kind body hb
      have hn4 : n < 4294967296 := hn ▸ CM.on_lt (by omega) X
      rw [HBL0.out, FM.fill_rec kind body (numB 4 n) hb, ← hX] at HD
      have hby := arr_bytes HD.out (n := 252) (X := X) (by simp [FM.fill, ← hXL]) hXL (by omega)
      have htw : Tab wr := HT.out.below HBe.out HT.out.lt
      have hw4 : wid 4 = 4 := by decide
      have HX := Lib.hid hX
      have HN := Lib.hid hn
      have k2 : ∀ w : World, Calls Tryz.prog 59 #[.int .i64 4, .int .u64 (IntKind.u64.wrap (n : Int))] w fun e w' => ∃ A c, e = .returned (.slice A 4 c) ∧ Own 5 w' w.heap.size (.slice A 4 c) (numB 4 n) ∧ Below w.heap.size w w' := fun w => by
        have h := num_any 4 n w
        rw [hw4] at h
        rw [show IntKind.u64.wrap (n : Int) = (n : Int) by rw [IntKind.wrap_u64]; omega]
        exact h
      have JX : Joined (wr.alloc (.cells #[.slice (some ⟨w.heap.size + 1, 0, none⟩) 252 256] 62)).drew (wr.heap.size + 1) (.slice (some ⟨wr.heap.size, 0, none⟩) 1 1) X := Joined.keep (Joined.one hby (Nat.le_refl _) wr.heap.size rfl (wr.heap.size + 1) (by omega) 62) (fun p hp => rfl)
      have TX : Tab (wr.alloc (.cells #[.slice (some ⟨w.heap.size + 1, 0, none⟩) 252 256] 62)).drew := Tab.below htw ((Below.refl wr.heap.size wr).alloc (Nat.le_refl _) _).drew htw.lt
      have k1 := sum_call _ X _ _ TX JX
      rw [← hn] at k1
      have D8 := Lib.hid ((HD.out.alloc (.cells #[.slice (some ⟨w.heap.size + 1, 0, none⟩) 252 256] 62)).drew)
      have R8 := Lib.hid ((HR.out.alloc (.cells #[.slice (some ⟨w.heap.size + 1, 0, none⟩) 252 256] 62)).drew)
      have B8 : Hid (Below w.heap.size w (wr.alloc (.cells #[.slice (some ⟨w.heap.size + 1, 0, none⟩) 252 256] 62)).drew) := Lib.hid ((HBe.out.alloc HBe.out.size _).drew)
      clear hX hn hby htw hw4 HD HR HBe JX TX
      go_wp2_with fail
      go_region_held3 (fun _ => True) (trivial) (first
        | (go_at_call 82; (with_reducible refine k1.mono ?_); rintro e w' ⟨rfl, rfl⟩)
        | (go_at_call 59; (with_reducible refine (k2 _).mono ?_); rintro e w8 ⟨As, cs, rfl, O8, hb8⟩; have O8b := Lib.hid (O8.bytes (by rw [numB_length]; simp [maxLen])); have D9 := Lib.hid (D8.out.after hb8); have R9 := Lib.hid (R8.out.after hb8); have B9 := Lib.hid (B8.out.trans (hb8.mono B8.out.size)); clear O8 hb8)
        | (revert D9; intro D9; refine step_copy byteTys (by rfl) (.tmp 28) (.tmp 33) (by rfl) D9.out.1 252 4 4 (by rfl) _ (by rfl) _ O8b.out (List.take_of_length_le (by rw [numB_length]; omega)) (by rw [numB_length, D9.out.2]; omega) 4 (by rw [numB_length]) ?_; intro w10 h10 g10 e10))
      have hlay : lay (FM.fill X (numB 4 n) 4 0) 252 (numB 4 n) = FM.dat kind body := by
        have h := FM.lay_fill (pre := X) (body := numB 4 n) (m := numB 4 n) (tot := 4) (j := 0) (Nat.zero_le _) (by rw [numB_length]; omega) (by rw [List.drop_zero, List.take_length]) (by omega)
        rw [hXL, numB_length, Nat.add_zero, Nat.zero_add] at h
        rw [h, HN.out, HX.out, FM.fill_dat]
      have hdl := FM.dat_length kind body hb
      have D10 : Arr w10 (w.heap.size + 1) (FM.dat kind body) := ⟨by rw [← hlay]; exact h10.out, hdl⟩
      have R10 := R9.out.grown g10 (by omega)
      have B10 := Lib.hid (B9.out.grown g10 B9.out.size (fun k e => by cases e; omega))
      clear h10 g10 e10 hlay D8 D9 R8 R9 B8 B9 O8b k1 k2
      go_wp2_with (first | (with_reducible refine wpl_load (.tmp 7) rfl rfl D10 rfl ?_) | (with_reducible refine wpl_store (.tmp 6) (.tmp 35) rfl rfl R10 rfl hdl rfl ?_; intro w11 R11 g11 e11))
      refine bodyPost_ret (ret1 rfl _ R11 rfl) rfl ?_
      exact ⟨rfl, B10.out.grown g11 B10.out.size (fun k e => by cases e; exact Nat.le_refl _)⟩
end Go.Proofs.YtdiocjneakfdgaaGreatDoor

/- The contract of frame's Write: the page of the record, or a refusal. Condition: the table holds its sixteen numbers; at most a million bytes in all. -/
namespace Go.Proofs.YtdiocjneakfdgaaGreatDoor
open Go.RowKit
theorem FM.lay_page (D : List UInt8) (hD : D.length = 256) (a b : UInt8) : lay (lay pzeros 0 D) 256 [a, b] = D ++ [a, b] := by
  have h1 : lay pzeros 0 D = D ++ [0, 0] := by
    unfold lay
    rw [List.take_zero, List.nil_append, Nat.zero_add, hD]
    rfl
  rw [h1]
  unfold lay
  rw [List.take_append_of_le_length (by omega), List.take_of_length_le (by omega), List.drop_of_length_le (by simp [hD]), List.append_nil]
theorem numB_two (n : Nat) : numB 2 n = [UInt8.ofNat n, UInt8.ofNat (n / 256)] := by
  simp [numB]
set_option maxRecDepth 100000 in
set_option maxHeartbeats 8000000 in
theorem write_any (kind : UInt8) (v : Value) (L : List (List UInt8)) (w : World) (B : Nat) (hB : B ≤ w.heap.size) (hp : Parts w B v L) (ht : Tab w) (hlen : L.flatten.length ≤ 1000000) :
    Calls Tryz.prog 35 #[.int .u8 ((kind.toNat : Nat) : Int), v] w fun e w' => e = .returned (.tuple #[.agg (cl (FM.writeM kind L.flatten).1), .int .i64 (((FM.writeM kind L.flatten).2 : Nat) : Int)]) ∧ Below w.heap.size w w' := by
  have z := zeroPage
  have HP0 := Lib.hid hp
  obtain ⟨A, c, vs, rfl, hr, he, hvl⟩ := hp
  unfold maxLen at hvl
  have R0 := Lib.hid (PArr.new w pzeros_length)
  have B0 : Hid (Below w.heap.size w (w.alloc (.cells (cl pzeros) 92))) := Lib.hid ((Below.refl _ _).alloc (Nat.le_refl _) _)
  obtain ⟨body, hbody⟩ : ∃ body, body = L.flatten := ⟨_, rfl⟩
  have hfull : L.take vs.length = L := by rw [he.1]; exact List.take_length
  have HF := Lib.hid hfull
  have HLB := Lib.hid hbody
  have HT2 := Lib.hid (flat_take_le L)
  have HT := Lib.hid ht
  have hkl : kind.toNat < 256 := kind.toNat_lt
  rw [← hbody] at hlen ⊢
  clear ht hfull hbody
  go_enter Tryz.func35, Tryz.ntmps35
  go_wp2_with fail
  go_loop [6, 13] (fun z i => ∃ k : Nat, k ≤ vs.length ∧ i = .int .i64 k ∧ z = .int .i64 ((L.take k).flatten.length : Int)) (fun _ i => vs.length - (intOf i).toNat)
  case atStart => exact ⟨0, Nat.zero_le _, rfl, rfl⟩
  case round =>
    obtain ⟨k, hk, rfl, rfl⟩ := hrel
    by_cases hlt : k < vs.length
    · obtain ⟨a, rfl, hab, hcell⟩ := hr.at_ hlt
      obtain ⟨l, hl, Ai, ci, hv, hlc, hcm, hrow⟩ := he.at_ hlt
      have hc2 := (B0.out.cell (p := a.add k) (by rw [add_block]; omega)).trans hcell
      rw [hv] at hc2
      have e : (L.take (k + 1)).flatten.length = (L.take k).flatten.length + l.length := by rw [take_snoc L hl, List.flatten_append, List.length_append]; simp
      have hle := HT2.out (k + 1)
      obtain ⟨z, hz⟩ : ∃ z, z = (L.take k).flatten.length := ⟨_, rfl⟩
      rw [← hz] at e ⊢
      rw [e, ← HLB.out] at hle
      have HE := Lib.hid e
      clear hv hl hrow e hz hcell
      unfold maxLen at hcm
      go_wp2_with fail
      go_round
      case rel => exact ⟨k + 1, by omega, by go_num, by rw [HE.out]; go_num⟩
      case measure => simp [intOf]; omega
    · obtain rfl : k = vs.length := by omega
      rw [HF.out, ← HLB.out]
      have k1 := fits_any kind.toNat (body.length : Int)
      by_cases hf : 1 ≤ kind.toNat ∧ kind.toNat ≤ 254 ∧ (body.length : Int) ≤ 240
      · rw [decide_eq_true hf] at k1
        have hb : body.length ≤ 240 := by omega
        have h0 : kind ≠ 0 := fun e => by rw [e] at hf; exact absurd hf.1 (by decide)
        have h1 : kind ≠ 255 := fun e => by rw [e] at hf; exact absurd hf.2.1 (by decide)
        have HW : Hid (FM.writeM kind body = (FM.page kind body, 0)) := Lib.hid (by
          unfold FM.writeM
          rw [if_neg]
          intro h
          rcases h with h | h | h
          · exact h0 h
          · exact h1 h
          · omega)
        have k2 := record_any kind body _ L HLB.out.symm hb _ B (by rw [World.size_alloc]; omega) (HP0.out.below (B := B) ((B0.out).mono hB)) (HT.out.below B0.out HT.out.lt)
        clear hf h0 h1
        go_wp2_with fail
        ((with_reducible refine (k1 _).mono ?_); rintro e w' ⟨rfl, rfl⟩)
        go_wp2_with fail
        ((with_reducible refine k2.mono ?_); rintro e w2 ⟨rfl, hb2⟩)
        have R2 := Lib.hid (R0.out.after hb2)
        have B2 := Lib.hid (B0.out.trans (hb2.mono B0.out.size))
        have hle2 : w.heap.size < w2.heap.size := R2.out.lt
        obtain ⟨D, hD⟩ : ∃ D, D = FM.dat kind body := ⟨_, rfl⟩
        have hDL : D.length = 256 := hD ▸ FM.dat_length kind body hb
        rw [← hD]
        have HDD := Lib.hid hD
        clear R0 B0 hb2 k1 k2 hD
        have z2 := zeroData
        go_wp2_with (with_reducible refine wpl_store (.tmp 9) (.tmp 30) rfl rfl (Arr.new w2 HM.zeros_length) rfl hDL rfl ?_; intro w3 D3 g3 e3)
        have hg8 : w3.heap.size = w2.heap.size + 1 := by rw [e3, World.size_alloc]
        have D4 : Hid (Arr (w3.alloc (.cells (cl pzeros) 92)).drew w2.heap.size D) := Lib.hid (D3.alloc _).drew
        have P4 : Hid (PArr (w3.alloc (.cells (cl pzeros) 92)).drew (w2.heap.size + 1) pzeros) := Lib.hid (by have := (PArr.new w3 pzeros_length).drew; rw [hg8] at this; exact this)
        have R4 : Hid (PArr (w3.alloc (.cells (cl pzeros) 92)).drew w.heap.size pzeros) := Lib.hid (((R2.out.alloc _).grown g3 (by omega)).alloc _).drew
        have B3 := kept_new B2.out g3
        have B4 : Hid (Below w.heap.size w (w3.alloc (.cells (cl pzeros) 92)).drew) := Lib.hid (B3.alloc B3.size _).drew
        obtain ⟨g8, hg8e⟩ : ∃ g8, g8 = w2.heap.size := ⟨_, rfl⟩
        rw [← hg8e] at D4 P4 hle2 ⊢
        have DB4 := Lib.hid (arr_bytes D4.out (n := 256) (X := D) (by rw [← hDL, List.take_length]) hDL (by omega))
        clear D3 g3 e3 B3 R2 B2 hg8 hg8e
        go_region_held3 (fun _ => True) (trivial) ((refine step_copy byteTys (by rfl) (.tmp 31) (.tmp 32) (by rfl) P4.out.1 0 258 _ (by rfl) _ (by rfl) _ DB4.out (List.take_of_length_le (by omega)) (by rw [pzeros_length]; omega) 256 hDL ?_; intro w5 h5 g5 e5))
        have P5 : Hid (PArr w5 (g8 + 1) (lay pzeros 0 D)) := Lib.hid ⟨h5.out, by rw [lay_length (by rw [pzeros_length]; omega), pzeros_length]⟩
        have D5 := Lib.hid (D4.out.grown g5 (by omega))
        have R5 := Lib.hid (R4.out.grown g5 (by omega))
        have B5 := Lib.hid (B4.out.grown g5 B4.out.size (fun k e => by cases e; omega))
        clear h5 g5 e5 D4 P4 R4 B4 DB4
        have k3 := check_any D hDL
        obtain ⟨q, hq⟩ : ∃ q, q = HM.ck D := ⟨_, rfl⟩
        have hq2 : q < 8192 := hq ▸ HM.ck_lt D
        rw [← hq] at k3
        have HQ := Lib.hid hq
        have k4 : ∀ w : World, Calls Tryz.prog 59 #[.int .i64 2, .int .u64 (IntKind.u64.wrap (q : Int))] w fun e w' => ∃ A c, e = .returned (.slice A 2 c) ∧ Own 5 w' w.heap.size (.slice A 2 c) (numB 2 q) ∧ Below w.heap.size w w' := fun w => by
          have h := num_any 2 q w
          rw [show wid 2 = 2 by decide] at h
          rw [show IntKind.u64.wrap (q : Int) = (q : Int) by rw [IntKind.wrap_u64]; omega]
          exact h
        clear hq
        go_wp2_with fail
        have D6 : Arr w5.drew g8 D := D5.out.drew
        refine wp_region_held_drew (S := fun w' => Arr w' g8 D) (by kernel_rfl) D6 (fun _ => ?_)
        refine wpAnyH_take (i := 0) (v := .slice (some ⟨g8 + 1, 256, none⟩) 2 2) rfl (by kernel_rfl) (by kernel_rfl) (by kernel_rfl) (fun _ _ _ h => h) (Or.inl ⟨by rfl, fun w _ => by go_simp⟩) D6 ?_
        refine wpAnyH_take (i := 1) (v := .agg (cl D)) rfl (by kernel_rfl) (by kernel_rfl) (by kernel_rfl) (fun _ _ _ h => h) (yields_load (.tmp 9) rfl rfl rfl (fun _ h => h)) D6 ?_
        refine wpAnyH_ready (rs := [2]) (by kernel_rfl) (by simp) (AllReadyH.cons rfl (fun K hK => ?_) AllReadyH.nil)
        go_simp
        ((with_reducible refine (k3 _).mono ?_); rintro e w6 ⟨rfl, hb6⟩)
        have D7 := D6.after hb6
        have hb6' : Below w5.heap.size w5 w6 := (Below.refl w5.heap.size w5).drew.trans hb6
        have P7 := Lib.hid (P5.out.after hb6')
        have R7 := Lib.hid (R5.out.after hb6')
        have B7 := Lib.hid (B5.out.trans (hb6'.mono B5.out.size))
        refine hK.out _ _ D7 (fun _ => ?_)
        clear hK K D6 D5 P5 R5 B5 hb6 hb6' k3
        refine wpAnyH_take (i := 3) (v := .int .u64 (IntKind.u64.wrap (q : Int))) rfl (by kernel_rfl) (by kernel_rfl) (by kernel_rfl) (fun _ _ _ h => h) (Or.inl ⟨by rfl, fun w _ => by go_simp⟩) D7 ?_
        refine wpAnyH_ready (rs := [4]) (by kernel_rfl) (by simp) (AllReadyH.cons rfl (fun K hK => ?_) AllReadyH.nil)
        go_simp
        ((with_reducible refine (k4 _).mono ?_); rintro e w8 ⟨As, cs, rfl, O8, hb8⟩)
        have O8b := Lib.hid (O8.bytes (by rw [numB_length]; simp [maxLen]))
        have D9 := D7.after hb8
        have P9 := Lib.hid (P7.out.after hb8)
        have R9 := Lib.hid (R7.out.after hb8)
        have B9 := Lib.hid (B7.out.trans (hb8.mono B7.out.size))
        refine hK.out _ _ D9 (fun _ => ?_)
        clear hK K D7 P7 R7 B7 hb8 k4 O8
        have hpl := P9.out.2
        refine wpAnyH_ready (rs := [5]) (by kernel_rfl) (by simp) (AllReadyH.cons rfl (fun K hK => ?_) AllReadyH.nil)
        refine step_copy byteTys (by rfl) (.tmp 34) (.tmp 38) (by rfl) P9.out.1 256 2 2 (by rfl) _ (by rfl) _ O8b.out (List.take_of_length_le (by rw [numB_length]; omega)) (by rw [numB_length, hpl]; omega) 2 (by rw [numB_length]) ?_
        intro w10 h10 g10 e10
        have hpg : lay (lay pzeros 0 D) 256 (numB 2 q) = FM.page kind body := by
          rw [numB_two, FM.lay_page D hDL, HQ.out, HDD.out]
          rfl
        have hpl2 : (FM.page kind body).length = 258 := FM.page_length kind body hb
        have P10 : PArr w10 (g8 + 1) (FM.page kind body) := ⟨by rw [← hpg]; exact h10.out, hpl2⟩
        have R10 := R9.out.grown g10 (by omega)
        have B10 := Lib.hid (B9.out.grown g10 B9.out.size (fun k e => by cases e; omega))
        refine hK.out _ _ (D9.grown g10 (by omega)) (fun _ => ?_)
        clear hK K h10 g10 e10 hpg D9 P9 R9 B9 O8b
        refine wpAnyH_done (by kernel_rfl) ?_ _
        go_wp2_with (first | (with_reducible refine wpl_pload (.tmp 10) rfl rfl P10 rfl ?_) | (with_reducible refine wpl_pstore (.tmp 4) (.tmp 40) rfl rfl R10 rfl hpl2 rfl ?_; intro w11 R11 g11 e11))
        refine bodyPost_ret (pret2 rfl _ R11 rfl) rfl ?_
        rw [HW.out]
        exact ⟨rfl, B10.out.grown g11 B10.out.size (fun k e => by cases e; exact Nat.le_refl _)⟩
      · rw [decide_eq_false hf] at k1
        have HW : Hid (FM.writeM kind body = (pzeros, 1)) := Lib.hid (by
          unfold FM.writeM
          rw [if_pos]
          · rfl
          by_cases h0 : kind = 0
          · exact .inl h0
          · by_cases h1 : kind = 255
            · exact .inr (.inl h1)
            · have e0 : ¬ kind.toNat = 0 := fun e => h0 (UInt8.toNat_inj.1 e)
              have e1 : ¬ kind.toNat = 255 := fun e => h1 (UInt8.toNat_inj.1 e)
              exact .inr (.inr (by omega)))
        clear hf
        go_wp2_with fail
        ((with_reducible refine (k1 _).mono ?_); rintro e w' ⟨rfl, rfl⟩)
        go_wp2_with (with_reducible refine wpl_pstore (.tmp 4) (.tmp 26) rfl rfl R0.out rfl pzeros_length rfl ?_; intro w4 R4 g4 e4)
        (try simp only [Exit.inBlock, Exit.then])
        refine bodyPost_ret (pret2 rfl _ R4 rfl) rfl ?_
        rw [HW.out]
        exact ⟨rfl, B0.out.grown g4 (by simp) (fun k e => by cases e; exact Nat.le_refl _)⟩
end Go.Proofs.YtdiocjneakfdgaaGreatDoor

/- Plain mathematics: when data are those of a record. No program, no condition. -/
namespace Go.Proofs.YtdiocjneakfdgaaGreatDoor.FM
open Go
theorem rec_get (k : UInt8) (b : List UInt8) (h : b.length ≤ 240) (i : Nat) : (rec252 k b)[i]? = if i = 0 then some k else if i = 1 then some (UInt8.ofNat b.length) else if i < 2 + b.length then b[i - 2]? else if i < 252 then some 0 else none := by
  unfold rec252
  match i with
  | 0 => rfl
  | 1 => rfl
  | i + 2 =>
    rw [if_neg (by omega), if_neg (by omega), List.getElem?_cons_succ, List.getElem?_cons_succ]
    by_cases h1 : i + 2 < 2 + b.length
    · rw [if_pos h1, List.getElem?_append_left (by omega)]
      rfl
    · rw [if_neg h1, List.getElem?_append_right (by omega), List.getElem?_replicate]
      by_cases h2 : i + 2 < 252
      · rw [if_pos h2, if_pos (by omega)]
      · rw [if_neg h2, if_neg (by omega)]
theorem getD_get {x : List UInt8} {i : Nat} (h : i < x.length) : x[i]? = some (x.getD i 0) := by
  rw [List.getD_eq_getElem?_getD, List.getElem?_eq_getElem h, Option.getD_some]
theorem rec_iff (x : List UInt8) (hx : x.length = 256) (s : Nat) (hs : s = (x.getD 1 0).toNat) (h : s ≤ 240) : x.take 252 = rec252 (x.getD 0 0) ((x.drop 2).take s) ↔ nought x (2 + s) = true := by
  have hl : ((x.drop 2).take s).length = s := by rw [List.length_take, List.length_drop, hx]; omega
  constructor
  · intro e
    rw [nought_iff]
    intro i hi ha
    have e1 : (x.take 252)[i]? = (rec252 (x.getD 0 0) ((x.drop 2).take s))[i]? := by rw [e]
    rw [List.getElem?_take, if_pos hi, rec_get _ _ (by omega), hl, if_neg (by omega), if_neg (by omega), if_neg (by omega), if_pos hi, getD_get (by omega)] at e1
    exact Option.some.inj e1
  · intro hn
    rw [nought_iff] at hn
    apply List.ext_getElem?
    intro i
    rw [List.getElem?_take, rec_get _ _ (by omega), hl]
    by_cases h0 : i = 0
    · subst h0
      rw [if_pos (by omega), if_pos rfl, getD_get (by omega)]
    · rw [if_neg h0]
      by_cases h1 : i = 1
      · subst h1
        rw [if_pos (by omega), if_pos rfl, getD_get (by omega), hs, UInt8.ofNat_toNat]
      · rw [if_neg h1]
        by_cases h2 : i < 2 + s
        · rw [if_pos h2, if_pos (by omega), List.getElem?_take, if_pos (by omega), List.getElem?_drop, show 2 + (i - 2) = i by omega]
        · rw [if_neg h2]
          by_cases h3 : i < 252
          · rw [if_pos h3, if_pos h3, getD_get (by omega), hn i h3 (by omega)]
          · rw [if_neg h3, if_neg h3]
theorem dat_iff (x : List UInt8) (hx : x.length = 256) (s : Nat) (hs : s = (x.getD 1 0).toNat) (h : s ≤ 240) : x = dat (x.getD 0 0) ((x.drop 2).take s) ↔ nought x (2 + s) = true ∧ numB 4 (CM.on 0 (x.take 252)) = x.drop 252 := by
  have hl : ((x.drop 2).take s).length = s := by rw [List.length_take, List.length_drop, hx]; omega
  have hr := rec252_length (x.getD 0 0) ((x.drop 2).take s) (by omega)
  constructor
  · intro e
    have e1 : x.take 252 = rec252 (x.getD 0 0) ((x.drop 2).take s) := by
      have h1 : (dat (x.getD 0 0) ((x.drop 2).take s)).take 252 = rec252 (x.getD 0 0) ((x.drop 2).take s) := by
        unfold dat
        rw [List.take_append_of_le_length (by rw [hr]; omega), List.take_of_length_le (by rw [hr]; omega)]
      rw [← h1, ← e]
    refine ⟨(rec_iff x hx s hs h).1 e1, ?_⟩
    have h2 : (dat (x.getD 0 0) ((x.drop 2).take s)).drop 252 = numB 4 (CM.on 0 (rec252 (x.getD 0 0) ((x.drop 2).take s))) := by
      unfold dat
      rw [List.drop_append, List.drop_of_length_le (by rw [hr]; omega), List.nil_append, hr, Nat.sub_self, List.drop_zero]
    rw [e1, ← h2, ← e]
  · intro ⟨hn, hc⟩
    have e1 := (rec_iff x hx s hs h).2 hn
    unfold dat
    rw [← e1, hc, List.take_append_drop]
theorem fix_err (L : List UInt8) (c : Nat) : (HM.fixM L c).2.2 = 0 ∨ (HM.fixM L c).2.2 = 21 := by
  unfold HM.fixM
  split
  · split
    · exact .inl rfl
    · exact .inr rfl
  · split
    · exact .inl rfl
    · split
      · exact .inl rfl
      · exact .inr rfl
/-- what data read as, by their being a record's data -/
theorem openM_dat (x : List UInt8) (hx : x.length = 256) (n : Nat) (s : Nat) (hs : s = (x.getD 1 0).toNat) (h : s ≤ 240) (h0 : x.getD 0 0 ≠ 0) (h1 : x.getD 0 0 ≠ 255) : openM x n = if x = dat (x.getD 0 0) ((x.drop 2).take s) then (x.getD 0 0, (x.drop 2).take s, n, 0) else (0, [], 0, 21) := by
  unfold openM
  rw [if_neg (fun k => by
    rcases k with k | k | k
    · omega
    · exact h0 k
    · exact h1 k), ← hs]
  by_cases e : x = dat (x.getD 0 0) ((x.drop 2).take s)
  · rw [if_pos e]
    have := (dat_iff x hx s hs h).1 e
    rw [if_pos this.1, if_pos this.2]
  · rw [if_neg e]
    split
    · split
      · rename_i a b
        exact absurd ((dat_iff x hx s hs h).2 ⟨a, b⟩) e
      · rfl
    · rfl
end Go.Proofs.YtdiocjneakfdgaaGreatDoor.FM

/- The contract of the reference's Write: the page of the record; nothing that was there is changed. No condition but the arguments' shape. -/
namespace Go.Proofs.YtdiocjneakfdgaaGreatDoor
open Go.RowKit
end Go.Proofs.YtdiocjneakfdgaaGreatDoor

/- The contract of the reference's Read: the record of the page; nothing that was there is changed. No condition but the array's length. -/
namespace Go.Proofs.YtdiocjneakfdgaaGreatDoor
open Go.RowKit
theorem results_tmp4 {fn : Func} {t u v x : Tmp} (h : fn.results = #[.tmp t, .tmp u, .tmp v, .tmp x]) (tmps : Array Value) (P : Program) (w : World) :
    (results fn tmps).run P w = .ok (.tuple #[tmps.getD t undef, tmps.getD u undef, tmps.getD v undef, tmps.getD x undef]) w := by
  simp [results, h]
end Go.Proofs.YtdiocjneakfdgaaGreatDoor

/- The contract of frame's Read: the record of the page. Condition: the table holds its sixteen numbers; the array's length. -/
namespace Go.Proofs.YtdiocjneakfdgaaGreatDoor
open Go.RowKit
theorem bytes_nil (w : World) (B : Nat) : Bytes w B (.slice none 0 0) [] := ⟨none, 0, rfl, Nat.le_refl _, by simp [maxLen], Row.nil⟩
theorem parr_mid {w : World} {g o n c : Nat} {L X : List UInt8} (hA : PArr w g L) (hX : (L.drop o).take n = X) (hn : X.length = n) (hc : n ≤ c) (h : c ≤ 258) : Bytes w w.heap.size (.slice (some ⟨g, o, none⟩) n c) X :=
  ⟨some ⟨g, o, none⟩, c, by rw [hn], by omega, by simp only [maxLen]; omega, fun j u hu => by
    refine ⟨_, rfl, hA.lt, ?_⟩
    have hadd : (⟨g, o, none⟩ : Addr).add j = ⟨g, o + j, none⟩ := by unfold Addr.add; split <;> simp_all
    rw [hadd, hA.cell, ← Array.getElem?_toList, cl_list]
    have hj : j < n := by have := get_lt hu; rw [bv_length, hn] at this; exact this
    have e : bv X = ((bv L).drop o).take n := by rw [← hX]; simp [bv]
    rw [e, List.getElem?_take, if_pos hj, List.getElem?_drop] at hu
    exact hu⟩
theorem pop_top (b : Nat) (hb : b < 256) : HM.popT (b / 32) 8 = HM.popT (b / 32) 3 := HM.popT_big (b / 32) 3 (by omega) 5
theorem lay_all {L m : List UInt8} (h : m.length = L.length) : lay L 0 m = m := by
  unfold lay
  rw [List.take_zero, List.nil_append, List.drop_of_length_le (by omega), List.append_nil]
theorem size_drew' (w : World) : w.drew.heap.size = w.heap.size := rfl
set_option maxRecDepth 100000 in
set_option maxHeartbeats 8000000 in
theorem read_any (L : List UInt8) (hL : L.length = 258) (w : World) (ht : Tab w) :
    Calls Tryz.prog 53 #[.agg (cl L)] w fun e w' => ∃ v, e = .returned (.tuple #[.int .u8 (((FM.readM L).1.toNat : Nat) : Int), v, .int .i64 (((FM.readM L).2.2.1 : Nat) : Int), .int .i64 (((FM.readM L).2.2.2 : Nat) : Int)]) ∧ Bytes w' w'.heap.size v (FM.readM L).2.1 ∧ Below w.heap.size w w' := by
  have z2 := zeroData
  have A0 := Lib.hid (PArr.new w hL)
  have B0 : Hid (Below w.heap.size w (w.alloc (.cells (cl L) 92))) := Lib.hid ((Below.refl _ _).alloc (Nat.le_refl _) _)
  have k1 := blank_any L hL
  obtain ⟨bk, hbk⟩ : ∃ bk, bk = FM.blank L := ⟨_, rfl⟩
  rw [← hbk] at k1
  have HBK := Lib.hid hbk
  have HT := Lib.hid ht
  clear hbk ht
  go_enter Tryz.func53, Tryz.ntmps53
  go_wp2_with (with_reducible refine wpl_pload (.tmp 1) rfl rfl A0.out rfl ?_)
  ((with_reducible refine (k1 _).mono ?_); rintro e w2 ⟨rfl, hb2⟩)
  have A2 := Lib.hid (A0.out.after hb2)
  have B2 := Lib.hid (B0.out.trans (hb2.mono B0.out.size))
  clear A0 B0 hb2 k1
  cases bk with
  | true =>
    have HR : Hid (FM.readM L = (0, [], 0, 20)) := Lib.hid (by unfold FM.readM; rw [if_pos HBK.out.symm])
    go_wp2_with fail
    (try simp only [Exit.inBlock, Exit.then])
    refine bodyPost_ret (results_tmp4 rfl _ _ _) rfl ?_
    rw [HR.out]
    exact ⟨_, rfl, bytes_nil _ _, B2.out⟩
  | false =>
    obtain ⟨b, hb, hc, HB⟩ := pbyte_at L hL (k := 257) (by omega)
    have hcell := (A2.out.cell 257).trans hc
    have k2 := ones8 (b / 32) (by omega)
    rw [pop_top b hb] at k2
    obtain ⟨a, ha⟩ : ∃ a, a = HM.popT (b / 32) 3 := ⟨_, rfl⟩
    have ha3 : a ≤ 3 := ha ▸ HM.popT_le _ _
    rw [← ha] at k2
    have HA3 : Hid (a = FM.above L) := Lib.hid (by rw [ha, HB.out]; rfl)
    have q32 : ((b / 32 : Nat) : Int) = (b : Int) / 32 := by omega
    rw [q32] at k2
    clear ha hc q32
    go_wp2_with fail
    ((with_reducible refine (k2 _).mono ?_); rintro e w' ⟨rfl, rfl⟩)
    clear k2
    by_cases h1 : 1 < a
    · have HR : Hid (FM.readM L = (0, [], 0, 21)) := Lib.hid (by
        unfold FM.readM
        rw [← HBK.out, ← HA3.out, if_pos h1]
        rfl)
      have d1 : decide ((1 : Int) < (a : Int)) = true := by simp; omega
      go_wp2_with fail
      (try simp only [Exit.inBlock, Exit.then])
      refine bodyPost_ret (results_tmp4 rfl _ _ _) rfl ?_
      rw [HR.out]
      exact ⟨_, rfl, bytes_nil _ _, B2.out⟩
    · have d1 : decide ((1 : Int) < (a : Int)) = false := by simp; omega
      go_wp2_with fail
      obtain ⟨D, hD⟩ : ∃ D, D = L.take 256 := ⟨_, rfl⟩
      have hDL : D.length = 256 := by rw [hD, List.length_take, hL]; rfl
      have HDD := Lib.hid hD
      have hlt2 : w.heap.size < w2.heap.size := A2.out.lt
      have D4 : Hid (Arr (w2.alloc (.cells (cl HM.zeros) 129)).drew w2.heap.size HM.zeros) := Lib.hid (Arr.new w2 HM.zeros_length).drew
      have P4 : Hid (PArr (w2.alloc (.cells (cl HM.zeros) 129)).drew w.heap.size L) := Lib.hid (A2.out.alloc _).drew
      have B4 : Hid (Below w.heap.size w (w2.alloc (.cells (cl HM.zeros) 129)).drew) := Lib.hid (B2.out.alloc B2.out.size _).drew
      have Y4 := Lib.hid (parr_mid P4.out (o := 0) (n := 258) (c := 258) (X := L) (by rw [List.drop_zero, List.take_of_length_le (by omega)]) hL (by omega) (by omega))
      obtain ⟨gd, hgd⟩ : ∃ gd, gd = w2.heap.size := ⟨_, rfl⟩
      rw [← hgd] at D4 hlt2 ⊢
      obtain ⟨ch, hch⟩ : ∃ ch, ch = FM.chk L := ⟨_, rfl⟩
      have hc6 := (L.getD 256 0).toNat_lt
      have hc7 := (L.getD 257 0).toNat_lt
      have hch2 : ch < 65536 := by rw [hch]; unfold FM.chk; omega
      have hle : le ((L.drop 256).take 2) = ch := by
        have hx : L.drop 256 = [L.getD 256 0, L.getD 257 0] := by
          apply List.ext_getElem?
          intro i
          rw [List.getElem?_drop]
          match i with
          | 0 => exact FM.getD_get (by omega)
          | 1 => exact FM.getD_get (by omega)
          | i + 2 => rw [List.getElem?_eq_none (by omega)]; rfl
        rw [hx, hch]
        show (L.getD 256 0).toNat + 256 * ((L.getD 257 0).toNat + 256 * 0) = _
        unfold FM.chk
        omega
      have hdl : (L.drop 256).length = 2 := by rw [List.length_drop, hL]
      obtain ⟨T, hT⟩ : ∃ T, T = L.drop 256 := ⟨_, rfl⟩
      rw [← hT] at hle hdl
      have HLE := Lib.hid hle
      have HTT := Lib.hid hT
      have HCH := Lib.hid hch
      clear hD A2 B2 hgd hch hc6 hc7 hle hT hcell
      go_region_held3 (fun _ => True) (trivial) ((refine step_copy byteTys (by rfl) (.tmp 22) (.tmp 23) (by rfl) D4.out.1 0 256 _ (by rfl) _ (by rfl) _ Y4.out HDD.out.symm (by rw [HM.zeros_length]; omega) 256 hDL ?_; intro w5 h5 g5 e5))
      have D5 : Hid (Arr w5 gd D) := Lib.hid ⟨by rw [← lay_all (L := HM.zeros) (m := D) (by rw [hDL, HM.zeros_length])]; exact h5.out, hDL⟩
      have P5 := Lib.hid (P4.out.grown g5 (by omega))
      have B5 := Lib.hid (B4.out.grown g5 B4.out.size (fun k e => by cases e; omega))
      clear h5 g5 e5 D4 P4 B4 Y4
      have Y5 := parr_mid P5.out (o := 256) (n := 2) (c := 2) (X := T) (by rw [← HTT.out, List.take_of_length_le (by omega)]) hdl (by omega) (by omega)
      have k3 := newreader_any _ T w5 Y5 (by omega)
      clear Y5
      go_wp2_with fail
      ((with_reducible refine k3.mono ?_); rintro e w6 ⟨gr, hrr, rfl, R6, hg1, hg2, hlt, hb6⟩)
      have D6 := Lib.hid (D5.out.after hb6)
      have P6 := Lib.hid (P5.out.after hb6)
      have B6 := Lib.hid (B5.out.trans (hb6.mono B5.out.size))
      have hlt6 : gd < w5.heap.size := D5.out.lt
      have k4 := rnum_yes gr hrr T false 2 w6 R6 (by rw [show wid 2 = 2 by decide]; omega)
      rw [show wid 2 = 2 by decide, HLE.out] at k4
      clear D5 P5 B5 hb6 k3 R6
      go_wp2_with fail
      ((with_reducible refine k4.mono ?_); rintro e w7 ⟨rfl, _, hg7⟩)
      have D7 := Lib.hid (D6.out.grown hg7 (by omega))
      have P7 := Lib.hid (P6.out.grown hg7 (by omega))
      have B7 := Lib.hid (B6.out.grown hg7 B6.out.size (fun k e => by cases e; omega))
      clear D6 P6 B6 hg7 k4 hg1 hg2 hlt
      have k5 := fix_any D hDL ch hch2
      obtain ⟨x, hx⟩ : ∃ x, x = (HM.fixM D ch).1 := ⟨_, rfl⟩
      obtain ⟨n, hn⟩ : ∃ n, n = (HM.fixM D ch).2.1 := ⟨_, rfl⟩
      obtain ⟨e, he⟩ : ∃ e, e = (HM.fixM D ch).2.2 := ⟨_, rfl⟩
      have hxL : x.length = 256 := hx ▸ HM.fixM_length D ch hDL
      have sm := HM.fixM_small D ch
      have hee := FM.fix_err D ch
      rw [← hx, ← hn, ← he] at k5
      rw [← hn, ← he] at sm
      rw [← he] at hee
      have HRD : Hid (FM.readM L = if e ≠ 0 then (0, [], 0, 21) else FM.openM x (n + a)) := Lib.hid (by
        unfold FM.readM
        rw [← HBK.out, ← HA3.out, if_neg h1, ← HDD.out, ← HCH.out, ← hx, ← hn, ← he]
        rfl)
      have w16 : IntKind.u16.wrap (ch : Int) = (ch : Int) := by rw [IntKind.wrap_u16]; omega
      clear hx hn he
      go_wp2_with (with_reducible refine wpl_load (.tmp 7) rfl rfl D7.out rfl ?_)
      ((with_reducible refine (k5 _).mono ?_); rintro e' w8 ⟨rfl, hb8⟩)
      have D8 := Lib.hid (D7.out.after hb8)
      have B8 := Lib.hid (B7.out.trans (hb8.mono B7.out.size))
      clear D7 P7 B7 hb8 k5 w16
      by_cases he0 : e = 0
      · subst he0
        rw [if_neg (fun h => h rfl)] at HRD
        obtain ⟨s1, hs1, hc1, HS1⟩ := byte_at x hxL (k := 1) (by omega)
        obtain ⟨x0, hx0, hc0, HX0⟩ := byte_at x hxL (k := 0) (by omega)
        go_wp2_with (with_reducible refine wpl_store (.tmp 7) (.tmp 33) rfl rfl D8.out rfl hxL rfl ?_; intro w9 X9 g9 e9; have q1 := (X9.cell 1).trans hc1; have q0 := (X9.cell 0).trans hc0)
        have X9' := Lib.hid X9
        have B9 := Lib.hid (B8.out.grown g9 B8.out.size (fun k e => by cases e; omega))
        clear X9 g9 e9 D8 B8
        go_quiet (fail)
        clear q0 q1 hc0 hc1
        have X10 : Hid (Arr (w9.drewN nq) gd x) := X9'
        have B10 : Hid (Below w.heap.size w (w9.drewN nq)) := Lib.hid ⟨B9.out.os, B9.out.tape, B9.out.output, B9.out.size, B9.out.block⟩
        obtain ⟨W, hW⟩ : ∃ W, W = w9.drewN nq := ⟨_, rfl⟩
        rw [← hW] at X10 B10 ⊢
        clear hW X9' B9
        have k6 := fits_any x0 (s1 : Int)
        by_cases hf : 1 ≤ x0 ∧ x0 ≤ 254 ∧ (s1 : Int) ≤ 240
        · rw [decide_eq_true hf] at k6
          have hs240 : s1 ≤ 240 := by omega
          have n0 : x.getD 0 0 ≠ 0 := fun e => by rw [e] at HX0; have := HX0.out; have h2 : (0 : UInt8).toNat = 0 := rfl; omega
          have n1 : x.getD 0 0 ≠ 255 := fun e => by rw [e] at HX0; have := HX0.out; have h2 : (255 : UInt8).toNat = 255 := rfl; omega
          rw [FM.openM_dat x hxL (n + a) s1 HS1.out hs240 n0 n1] at HRD
          obtain ⟨Bd, hBd⟩ : ∃ Bd, Bd = (x.drop 2).take s1 := ⟨_, rfl⟩
          have hBl : Bd.length = s1 := by rw [hBd, List.length_take, List.length_drop, hxL]; omega
          rw [← hBd] at HRD
          have Y10 := arr_mid X10.out (o := 2) (n := s1) (c := 254) (X := Bd) hBd.symm hBl (by omega) (by omega)
          obtain ⟨LL, hPL, hLL⟩ := Joined.one Y10 (Nat.le_refl _) W.heap.size rfl (W.heap.size + 1) (by omega) 62
          have k7 := join_any _ LL _ _ (by rw [World.size_alloc]; exact Nat.le_refl _) hPL (by rw [hLL]; omega)
          rw [hLL, hBl] at k7
          have X11 := Lib.hid (X10.out.alloc (.cells #[.slice (some ⟨gd, 2, none⟩) s1 254] 62))
          have B11 := Lib.hid (B10.out.alloc B10.out.size (.cells #[.slice (some ⟨gd, 2, none⟩) s1 254] 62))
          have ww1 : IntKind.i64.wrap (2 + (s1 : Int)) = 2 + (s1 : Int) := by rw [IntKind.wrap_i64]; omega
          have ww2 : (0 : Int) ≤ 2 + (s1 : Int) := by omega
          have ww3 : (2 + (s1 : Int)).toNat = 2 + s1 := by omega
          have ww5 : 2 + (s1 : Int) ≤ 256 := by omega
          have ww6 : (2 : Int) ≤ 2 + (s1 : Int) := by omega
          clear hf hBd Y10 hPL hLL X10 B10 n0 n1
          go_wp2_with fail
          ((with_reducible refine (k6 _).mono ?_); rintro e w' ⟨rfl, rfl⟩)
          go_wp2_with fail
          ((with_reducible refine k7.mono ?_); rintro e w12 ⟨g3, c3, rfl, hg3, O12, hb12⟩)
          have X12 := Lib.hid (X11.out.after hb12)
          have B12 := Lib.hid (B11.out.trans (hb12.mono B11.out.size))
          have Y12 := O12.bytes (by rw [hBl]; simp [maxLen]; omega)
          clear ww1 ww2 ww3 ww5 ww6 hg3 hb12 X11 B11 k6 k7
          go_wp2_with fail
          have X13 : Arr w12.drew gd x := X12.out.drew
          obtain ⟨LL, hPL, hLL⟩ : Joined (w12.alloc (.cells #[.slice (some ⟨g3, 0, none⟩) s1 c3] 62)).drew (w12.heap.size + 1) (.slice (some ⟨w12.heap.size, 0, none⟩) 1 1) Bd := (Joined.one Y12 (Nat.le_refl _) w12.heap.size rfl (w12.heap.size + 1) (by omega) 62).keep fun p hp => rfl
          have B13 : Below w.heap.size w (w12.alloc (.cells #[.slice (some ⟨g3, 0, none⟩) s1 c3] 62)).drew := (B12.out.alloc B12.out.size _).drew
          have X14 : Arr (w12.alloc (.cells #[.slice (some ⟨g3, 0, none⟩) s1 c3] 62)).drew gd x := (X12.out.alloc _).drew
          have k8 := record_any (x.getD 0 0) Bd _ LL hLL (by omega) (w12.alloc (.cells #[.slice (some ⟨g3, 0, none⟩) s1 c3] 62)).drew _ (by rw [size_drew', World.size_alloc]; exact Nat.le_refl _) hPL (HT.out.below B13 HT.out.lt)
          rw [hBl, ← HX0.out] at k8
          obtain ⟨Z, hZ⟩ : ∃ Z, Z = FM.dat (x.getD 0 0) Bd := ⟨_, rfl⟩
          have hZL : Z.length = 256 := hZ ▸ FM.dat_length _ _ (by omega)
          rw [← hZ] at k8 HRD
          have hEq := fun w => equalIn_cl hxL hZL w
          refine wp_region_held_drew (S := fun w' => Arr w' gd x) (by kernel_rfl) X13 (fun _ => ?_)
          refine wpAnyH_take (i := 0) (v := .agg (cl x)) rfl (by kernel_rfl) (by kernel_rfl) (by kernel_rfl) (fun _ _ _ h => h) (yields_load (.tmp 7) rfl rfl rfl (fun _ h => h)) X13 ?_
          refine wpAnyH_take (i := 1) (v := .int .u8 (x0 : Int)) rfl (by kernel_rfl) (by kernel_rfl) (by kernel_rfl) (fun _ _ _ h => h) (Or.inl ⟨by rfl, fun w _ => by go_simp⟩) X13 ?_
          refine wpAnyH_take (i := 2) (v := .int .i64 (s1 : Int)) rfl (by kernel_rfl) (by kernel_rfl) (by kernel_rfl) (fun _ _ _ h => h) (Or.inl ⟨by rfl, fun w _ => by go_simp⟩) X13 ?_
          refine wpAnyH_take (i := 3) (v := .slice (some ⟨g3, 0, none⟩) s1 c3) rfl (by kernel_rfl) (by kernel_rfl) (by kernel_rfl) (fun _ _ _ h => h) (Or.inl ⟨by rfl, fun w _ => by go_simp⟩) X13 ?_
          refine wpAnyH_ready (rs := [4]) (by kernel_rfl) (by simp) (AllReadyH.cons rfl (fun K hK => ?_) AllReadyH.nil)
          go_simp
          refine hK.out _ _ X14 (fun _ => ?_)
          clear hK K X13
          refine wpAnyH_ready (rs := [5]) (by kernel_rfl) (by simp) (AllReadyH.cons rfl (fun K hK => ?_) AllReadyH.nil)
          go_simp
          ((with_reducible refine k8.mono ?_); rintro e w15 ⟨rfl, hb15⟩)
          have X15 := X14.after hb15
          have B15 := B13.trans (hb15.mono B13.size)
          have Y15 := Y12.below (B := w12.heap.size) (w' := w15) (((Below.refl w12.heap.size w12).alloc (Nat.le_refl _) _).drew.trans (hb15.mono (by rw [size_drew', World.size_alloc]; omega)))
          have hz15 : w12.heap.size ≤ w15.heap.size := Nat.le_trans (by rw [size_drew', World.size_alloc]; omega) hb15.size
          have HY15 := Lib.hid (Y15.more hz15)
          refine hK.out _ _ X15 (fun _ => ?_)
          clear hK K X14 hb15 k8 Y12 Y15 hz15 hPL
          by_cases hxz : x = Z
          · rw [decide_eq_true hxz] at hEq
            rw [if_pos hxz] at HRD
            have hres : Value.tuple #[.int .u8 (x0 : Int), .slice (some ⟨g3, 0, none⟩) s1 c3, .int .i64 ((n : Int) + (a : Int)), .int .i64 0] = .tuple #[.int .u8 (((x.getD 0 0).toNat : Nat) : Int), .slice (some ⟨g3, 0, none⟩) s1 c3, .int .i64 ((n + a : Nat) : Int), .int .i64 ((0 : Nat) : Int)] := by
              rw [← HX0.out, Int.natCast_add]; rfl
            have HRES := Lib.hid hres
            clear hres hxz hZ
            refine wpAnyH_ready (rs := [6]) (by kernel_rfl) (by simp) (AllReadyH.cons rfl (fun K hK => ?_) AllReadyH.nil)
            go_simp
            refine hK.out _ _ X15 (fun _ => ?_)
            clear hK K
            refine wpAnyH_done (by kernel_rfl) ?_ _
            go_wp2_with fail
            (try simp only [Exit.inBlock, Exit.then])
            refine bodyPost_ret (results_tmp4 rfl _ _ _) rfl ?_
            rw [HRD.out]
            exact ⟨_, congrArg _ HRES.out, HY15.out, B15⟩
          · rw [decide_eq_false hxz] at hEq
            rw [if_neg hxz] at HRD
            clear hxz hZ
            refine wpAnyH_ready (rs := [6]) (by kernel_rfl) (by simp) (AllReadyH.cons rfl (fun K hK => ?_) AllReadyH.nil)
            go_simp
            refine hK.out _ _ X15 (fun _ => ?_)
            clear hK K
            refine wpAnyH_done (by kernel_rfl) ?_ _
            go_wp2_with fail
            (try simp only [Exit.inBlock, Exit.then])
            refine bodyPost_ret (results_tmp4 rfl _ _ _) rfl ?_
            rw [HRD.out]
            exact ⟨_, rfl, bytes_nil _ _, B15⟩
        · rw [decide_eq_false hf] at k6
          have HR : Hid (FM.readM L = (0, [], 0, 21)) := Lib.hid (by
            rw [HRD.out]
            unfold FM.openM
            rw [if_pos]
            rw [← HS1.out]
            by_cases h240 : 240 < s1
            · exact .inl h240
            · by_cases e0 : x0 = 0
              · exact .inr (.inl (UInt8.toNat_inj.1 (by rw [← HX0.out, e0]; rfl)))
              · exact .inr (.inr (UInt8.toNat_inj.1 (by rw [← HX0.out]; show x0 = 255; omega))))
          clear hf
          go_wp2_with fail
          ((with_reducible refine (k6 _).mono ?_); rintro e w' ⟨rfl, rfl⟩)
          go_wp2_with fail
          (try simp only [Exit.inBlock, Exit.then])
          refine bodyPost_ret (results_tmp4 rfl _ _ _) rfl ?_
          rw [HR.out]
          exact ⟨_, rfl, bytes_nil _ _, B10.out⟩
      · rcases hee with hee | hee
        · exact absurd hee he0
        subst hee
        have HR : Hid (FM.readM L = (0, [], 0, 21)) := Lib.hid (by rw [HRD.out, if_pos he0])
        go_wp2_with (with_reducible refine wpl_store (.tmp 7) (.tmp 33) rfl rfl D8.out rfl hxL rfl ?_; intro w9 X9 g9 e9)
        (try simp only [Exit.inBlock, Exit.then])
        refine bodyPost_ret (results_tmp4 rfl _ _ _) rfl ?_
        rw [HR.out]
        exact ⟨_, rfl, bytes_nil _ _, B8.out.grown g9 B8.out.size (fun k e => by cases e; omega)⟩
end Go.Proofs.YtdiocjneakfdgaaGreatDoor

/- Plain mathematics: what a page of a record reads as when one of its bits is turned, or two. No program, no condition. -/
namespace Go.Proofs.YtdiocjneakfdgaaGreatDoor.FM
open Go
theorem join256 {a b : Nat} (hb : b < 256) : b + 256 * a = (256 * a) ^^^ b := by
  apply Nat.eq_of_testBit_eq
  intro j
  have e : b + 256 * a = 2 ^ 8 * a + b := by omega
  rw [e, Nat.testBit_two_pow_mul_add a (by omega) j, Nat.testBit_xor, show 256 * a = 2 ^ 8 * a from rfl, Nat.testBit_two_pow_mul]
  by_cases h : j < 8
  · rw [if_pos h]
    simp [show ¬ j ≥ 8 by omega]
  · have h256 : 2 ^ 8 ≤ 2 ^ j := Nat.pow_le_pow_right (by decide) (by omega)
    rw [if_neg h, Nat.testBit_lt_two_pow (x := b) (i := j) (Nat.lt_of_lt_of_le hb h256)]
    simp [show j ≥ 8 by omega]
theorem pow_lt8 {k : Nat} (h : k < 8) : 2 ^ k < 256 := Nat.lt_of_lt_of_le (Nat.pow_lt_pow_right (by omega) h) (by omega)
theorem xor_lt8 {b k : Nat} (hb : b < 256) (h : k < 8) : b ^^^ 2 ^ k < 256 := Nat.xor_lt_two_pow (n := 8) hb (pow_lt8 h)
theorem chk_lo {a b k : Nat} (hb : b < 256) (h : k < 8) : (b ^^^ 2 ^ k) + 256 * a = (b + 256 * a) ^^^ 2 ^ k := by
  rw [join256 hb, join256 (xor_lt8 hb h), Nat.xor_assoc]
theorem chk_hi {a b k : Nat} (hb : b < 256) : b + 256 * (a ^^^ 2 ^ k) = (b + 256 * a) ^^^ 2 ^ (8 + k) := by
  rw [join256 hb, join256 hb]
  have e : 256 * (a ^^^ 2 ^ k) = 256 * a ^^^ 2 ^ (8 + k) := by
    have := Nat.shiftLeft_xor_distrib (a := a) (b := 2 ^ k) (i := 8)
    rw [Nat.shiftLeft_eq, Nat.shiftLeft_eq, Nat.shiftLeft_eq, ← Nat.pow_add] at this
    rw [Nat.mul_comm, show (256 : Nat) = 2 ^ 8 from rfl, this, Nat.mul_comm a, Nat.add_comm]
  rw [e, Nat.xor_assoc, Nat.xor_comm (2 ^ (8 + k)), Nat.xor_assoc]
theorem lo_mod {a j : Nat} (h : j < 13) : (a ^^^ 2 ^ j) % 8192 = a % 8192 ^^^ 2 ^ j ∧ (a ^^^ 2 ^ j) / 8192 = a / 8192 := by
  have h2 : 2 ^ j < 2 ^ 13 := Nat.pow_lt_pow_right (by omega) h
  constructor
  · have := Nat.xor_mod_two_pow (a := a) (b := 2 ^ j) (n := 13)
    rw [Nat.mod_eq_of_lt h2] at this
    exact this
  · have := Nat.shiftRight_xor_distrib (a := a) (b := 2 ^ j) (i := 13)
    rw [Nat.shiftRight_eq_div_pow, Nat.shiftRight_eq_div_pow, Nat.shiftRight_eq_div_pow, Nat.div_eq_of_lt h2, Nat.xor_zero] at this
    exact this
theorem hi_mod {a j : Nat} (h : 13 ≤ j) : (a ^^^ 2 ^ j) % 8192 = a % 8192 ∧ (a ^^^ 2 ^ j) / 8192 = a / 8192 ^^^ 2 ^ (j - 13) := by
  have h2 : 2 ^ j % 2 ^ 13 = 0 := Nat.mod_eq_zero_of_dvd (Nat.pow_dvd_pow 2 h)
  constructor
  · have := Nat.xor_mod_two_pow (a := a) (b := 2 ^ j) (n := 13)
    rw [h2, Nat.xor_zero] at this
    exact this
  · have := Nat.shiftRight_xor_distrib (a := a) (b := 2 ^ j) (i := 13)
    rw [Nat.shiftRight_eq_div_pow, Nat.shiftRight_eq_div_pow, Nat.shiftRight_eq_div_pow, Nat.pow_div h (by omega)] at this
    exact this
theorem fl_get {Q : List UInt8} (x i : Nat) (h : x / 8 ≠ i) : (HM.fl Q x).getD i 0 = Q.getD i 0 := by
  unfold HM.fl
  rw [List.getD_eq_getElem?_getD, List.getElem?_set_ne h, ← List.getD_eq_getElem?_getD]
theorem fl_at {Q : List UInt8} (x : Nat) (h : x / 8 < Q.length) : (HM.fl Q x).getD (x / 8) 0 = (Q.getD (x / 8) 0) ^^^ UInt8.ofNat (2 ^ (x % 8)) := by
  unfold HM.fl
  rw [List.getD_eq_getElem?_getD, List.getElem?_set_self h, Option.getD_some]
theorem fl_take {Q : List UInt8} {x : Nat} : (HM.fl Q x).take 256 = HM.tuL (Q.take 256) x := by
  unfold HM.tuL HM.fl
  by_cases h : x < 2048
  · rw [if_pos h, List.take_set]
    congr 1
    rw [List.getD_eq_getElem?_getD, List.getD_eq_getElem?_getD, List.getElem?_take, if_pos (by omega)]
  · rw [if_neg h]
    apply List.ext_getElem?
    intro i
    rw [List.getElem?_take, List.getElem?_take]
    split
    · rw [List.getElem?_set_ne (by omega)]
    · rfl
theorem fl_chk {Q : List UInt8} (hQ : Q.length = 258) {x : Nat} (hx : x < 2064) : chk (HM.fl Q x) = HM.tuC (chk Q) x := by
  have h0 := (Q.getD 256 0).toNat_lt
  unfold chk HM.tuC
  by_cases h : x < 2048
  · rw [if_pos h, fl_get x 256 (by omega), fl_get x 257 (by omega)]
  · rw [if_neg h]
    by_cases h2 : x / 8 = 256
    · have e := fl_at (Q := Q) x (by omega)
      rw [h2] at e
      rw [e, fl_get x 257 (by omega), UInt8.toNat_xor, HM.ofNat_pow _ (by omega), chk_lo h0 (by omega), show x - 2048 = x % 8 by omega]
    · have e := fl_at (Q := Q) x (by omega)
      rw [show x / 8 = 257 by omega] at e
      rw [e, fl_get x 256 (by omega), UInt8.toNat_xor, HM.ofNat_pow _ (by omega), chk_hi h0, show x - 2048 = 8 + x % 8 by omega]
theorem above_chk {Q : List UInt8} : above Q = HM.popT (chk Q / 8192) 3 := by
  have h0 := (Q.getD 256 0).toNat_lt
  unfold above chk
  congr 1
  omega
/-- a page one of whose bytes is 0 is not blank -/
theorem zero_blank {Q : List UInt8} {i : Nat} (hi : i < 258) (h : Q.getD i 0 = 0) : blank Q = false := decide_eq_false (by
  have h1 := zc_byte Q i 8 (Nat.le_refl _)
  have h2 := zc_mono Q (8 * i + 8) (2064 - (8 * i + 8))
  rw [show 8 * i + 8 + (2064 - (8 * i + 8)) = 2064 by omega] at h2
  rw [h, show HM.popT (0 : UInt8).toNat 8 = 0 by decide] at h1
  omega)
/-- what a page reads as that is not blank -/
theorem read_by {Q : List UInt8} (hb : blank Q = false) : readM Q = if 1 < HM.popT (chk Q / 8192) 3 then (0, [], 0, 21) else if (HM.fixM (Q.take 256) (chk Q % 8192)).2.2 ≠ 0 then (0, [], 0, 21) else openM (HM.fixM (Q.take 256) (chk Q % 8192)).1 ((HM.fixM (Q.take 256) (chk Q % 8192)).2.1 + HM.popT (chk Q / 8192) 3) := by
  unfold readM
  rw [if_neg (by rw [hb]; simp), above_chk, HM.fix_mod]
section
variable {kind : UInt8} {body : List UInt8}
theorem page_take (hb : body.length ≤ 240) : (page kind body).take 256 = dat kind body := by
  unfold page
  rw [List.take_append_of_le_length (by rw [dat_length kind body hb]; omega), List.take_of_length_le (by rw [dat_length kind body hb]; omega)]
theorem page_chk (hb : body.length ≤ 240) : chk (page kind body) = HM.ck (dat kind body) := by
  have hc := HM.ck_lt (dat kind body)
  have hl := dat_length kind body hb
  unfold chk page
  rw [List.getD_eq_getElem?_getD, List.getD_eq_getElem?_getD, List.getElem?_append_right (by omega), List.getElem?_append_right (by omega), hl]
  show (UInt8.ofNat _).toNat + 256 * (UInt8.ofNat _).toNat = _
  rw [UInt8.toNat_ofNat', UInt8.toNat_ofNat']
  omega
theorem page_zero (hb : body.length ≤ 240) {i : Nat} (h1 : 242 ≤ i) (h2 : i < 252) : (page kind body).getD i 0 = 0 := by
  have e : (page kind body)[i]? = (rec252 kind body)[i]? := by
    unfold page dat
    rw [List.append_assoc, List.getElem?_append_left (by rw [rec252_length kind body hb]; omega)]
  rw [List.getD_eq_getElem?_getD, e, rec_get _ _ hb, if_neg (by omega), if_neg (by omega), if_neg (by omega), if_pos h2]
  rfl
theorem open_page_dat (hb : body.length ≤ 240) (h0 : kind ≠ 0) (h1 : kind ≠ 255) (n : Nat) : openM (dat kind body) n = (kind, body, n, 0) := by
  have hl := dat_length kind body hb
  have g : ∀ i, i < 252 → (dat kind body)[i]? = (rec252 kind body)[i]? := fun i hi => by
    unfold dat
    rw [List.getElem?_append_left (by rw [rec252_length kind body hb]; omega)]
  have e0 : (dat kind body).getD 0 0 = kind := by rw [List.getD_eq_getElem?_getD, g 0 (by omega), rec_get _ _ hb]; rfl
  have e1 : (dat kind body).getD 1 0 = UInt8.ofNat body.length := by rw [List.getD_eq_getElem?_getD, g 1 (by omega), rec_get _ _ hb]; rfl
  have e2 : ((dat kind body).drop 2).take body.length = body := by
    apply List.ext_getElem?
    intro i
    rw [List.getElem?_take]
    by_cases h : i < body.length
    · rw [if_pos h, List.getElem?_drop, g (2 + i) (by omega), rec_get _ _ hb, if_neg (by omega), if_neg (by omega), if_pos (by omega), show 2 + i - 2 = i by omega]
    · rw [if_neg h, List.getElem?_eq_none (by omega)]
  have := openM_dat (dat kind body) hl n body.length (by rw [e1, UInt8.toNat_ofNat']; omega) hb (by rw [e0]; exact h0) (by rw [e0]; exact h1)
  rw [this, e0, e2, if_pos rfl]
theorem pop_one : ∀ x : Fin 3, HM.popT (2 ^ x.val) 3 = 1 := by decide
theorem sy (D : List UInt8) : HM.par D (HM.ck D) = 0 ∧ HM.syn D (HM.ck D) = 0 := ⟨HM.ck_par D, HM.ck_syn D⟩
/-- one bit is turned -/
theorem turn_one (hb : body.length ≤ 240) (h0 : kind ≠ 0) (h1 : kind ≠ 255) {x : Nat} (hx : x < 2064) : readM (HM.fl (page kind body) x) = (kind, body, 1, 0) := by
  have hp := page_length kind body hb
  have hl := dat_length kind body hb
  have hc := HM.ck_lt (dat kind body)
  obtain ⟨s1, s2⟩ := sy (dat kind body)
  have hbk : blank (HM.fl (page kind body) x) = false := by
    by_cases h : x / 8 = 242
    · exact zero_blank (i := 243) (by omega) (by rw [fl_get x 243 (by omega), page_zero hb (by omega) (by omega)])
    · exact zero_blank (i := 242) (by omega) (by rw [fl_get x 242 h, page_zero hb (by omega) (by omega)])
  rw [read_by hbk, fl_chk hp hx, fl_take, page_take hb, page_chk hb]
  by_cases h : x < 2061
  · have e : HM.tuC (HM.ck (dat kind body)) x % 8192 = HM.tuC (HM.ck (dat kind body)) x ∧ HM.tuC (HM.ck (dat kind body)) x / 8192 = 0 := by
      unfold HM.tuC
      split
      · omega
      · have := lo_mod (a := HM.ck (dat kind body)) (j := x - 2048) (by omega)
        rw [this.1, this.2, Nat.mod_eq_of_lt hc, Nat.div_eq_of_lt hc]
        exact ⟨rfl, rfl⟩
    rw [e.1, e.2, HM.fix_one (dat kind body) (HM.ck (dat kind body)) x hl h s1 s2]
    exact open_page_dat hb h0 h1 1
  · have e : HM.tuC (HM.ck (dat kind body)) x % 8192 = HM.ck (dat kind body) ∧ HM.tuC (HM.ck (dat kind body)) x / 8192 = 2 ^ (x - 2061) := by
      unfold HM.tuC
      rw [if_neg (by omega)]
      have := hi_mod (a := HM.ck (dat kind body)) (j := x - 2048) (by omega)
      rw [this.1, this.2, Nat.mod_eq_of_lt hc, Nat.div_eq_of_lt hc, Nat.zero_xor, show x - 2048 - 13 = x - 2061 by omega]
      exact ⟨rfl, rfl⟩
    have e2 : HM.tuL (dat kind body) x = dat kind body := if_neg (by omega)
    have e3 := pop_one ⟨x - 2061, by omega⟩
    simp only at e3
    rw [e.1, e.2, e2, e3, HM.fix_clean s1 s2]
    exact open_page_dat hb h0 h1 1
theorem turn_none (hb : body.length ≤ 240) (h0 : kind ≠ 0) (h1 : kind ≠ 255) : readM (page kind body) = (kind, body, 0, 0) := by
  have hc := HM.ck_lt (dat kind body)
  obtain ⟨s1, s2⟩ := sy (dat kind body)
  rw [read_by (zero_blank (i := 242) (by omega) (page_zero hb (by omega) (by omega))), page_take hb, page_chk hb, Nat.mod_eq_of_lt hc, Nat.div_eq_of_lt hc, HM.fix_clean s1 s2]
  exact open_page_dat hb h0 h1 0
end
end Go.Proofs.YtdiocjneakfdgaaGreatDoor.FM

/- A torn page is blank, or corrupt: the plain facts. No condition. -/
namespace Go.Proofs.YtdiocjneakfdgaaGreatDoor
open Go.RowKit
namespace FM
/-- from the place n on, as far as j, all bits are 1 -/
def torn (P : List UInt8) (n j : Nat) : List UInt8 := P.take n ++ List.replicate (j - n) 255 ++ P.drop j
theorem top_flip : ∀ k : Fin 8, 1 < HM.popT ((255 ^^^ UInt8.ofNat (2 ^ k.val)).toNat / 32) 3 := by decide
/-- a page that was torn is blank, or corrupt -/
theorem torn_read {Q : List UInt8} (h : Q.getD 257 0 = 255 ∨ ∃ k : Fin 8, Q.getD 257 0 = 255 ^^^ UInt8.ofNat (2 ^ k.val)) : FM.readM Q = (0, [], 0, 21) ∨ FM.readM Q = (0, [], 0, 20) ∧ FM.blank Q = true := by
  have ha : 1 < FM.above Q := by
    unfold FM.above
    rcases h with h | ⟨k, h⟩
    · rw [h]; decide
    · rw [h]; exact top_flip k
  unfold FM.readM
  by_cases hb : FM.blank Q = true
  · rw [if_pos hb]; exact .inr ⟨rfl, hb⟩
  · rw [if_neg hb, if_pos ha]; exact .inl rfl
end FM
end Go.Proofs.YtdiocjneakfdgaaGreatDoor

