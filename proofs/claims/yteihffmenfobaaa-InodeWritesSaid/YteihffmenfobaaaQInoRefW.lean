/- What the document's Write of an inode answers: its bytes. No condition but that the entries are there. -/
import Derived.Test.YteihffmenfobaaaQInoRef
import Derived.Test.YteihffmenfobaaaQInoWrite
import Derived.Test.YteihffmenfobaaaQInoBack
import Derived.Test.YteihffmenfobaaaQAppendBy
import Derived.Lib.AppendStr
namespace Go.Proofs.Yteihffmenfobaaa
open Go.RowKit Go.Shelf
theorem own_new {e : TypeId} (w : World) (base : Nat) (hb : base ≤ w.heap.size) (cs : Array Value) (l : List UInt8) (h : cs.toList = bv l) (hl : l.length ≤ maxLen) (n : Nat) (hn : n = l.length) :
    Own e (w.alloc (.cells cs e)) base (.slice (some ⟨w.heap.size, 0, none⟩) n n) l := by
  subst hn
  have hs : cs.size = l.length := by rw [← Array.length_toList, h, bv_length]
  exact ⟨by simp [bv_length], .inr ⟨w.heap.size, l.length, cs, rfl, hb, heap_alloc_new w _, Nat.le_refl _, hl, by omega, by rw [h, Nat.mul_one, List.take_of_length_le (by rw [bv_length]; exact Nat.le_refl _)]⟩⟩
def wbytes (n : IN) : List UInt8 := if n.ok then n.bytes else []
def wcode (n : IN) : Int := if n.ok then 0 else 1
theorem infoB' : ∃ ti, Try.prog.info? 5 = some ti ∧ ti.zero = some (.int .u8 0) ∧ ti.size = 1 ∧ ti.bytes = 1 := by
  have h : (Try.prog.info? 5).map (fun i => (i.zero, i.size, i.bytes)) = some (some (.int .u8 0), 1, 1) := by kernel_rfl
  cases hi : Try.prog.info? 5 with
  | none => rw [hi] at h; cases h
  | some ti =>
    rw [hi] at h
    simp only [Option.map_some, Option.some.injEq, Prod.mk.injEq] at h
    exact ⟨ti, rfl, h.1, h.2.1, h.2.2⟩
theorem wrap_u8_id {n : Nat} (h : n < 256) : IntKind.u8.wrap (n : Int) = (n : Int) := by
  have h2 : IntKind.u8.wrap (n : Int) = (n : Int) % 256 := by simp [IntKind.wrap, IntKind.bits, IntKind.signed]
  omega
theorem strCells_bv (s : ByteArray) : Go.Lib.strCells s = bv s.data.toList := rfl
theorem ofNat_toInt {n : Nat} (h : n < 256) : ((UInt8.ofNat n).toNat : Int) = (n : Int) := by
  rw [UInt8.toNat_ofNat']
  omega
set_option maxHeartbeats 8000000 in
set_option maxRecDepth 100000 in
theorem refWrite_no (n : IN) (v : Value) (w : World) (hv : Ents w w.heap.size v n.es) (h : ¬ n.ok) :
    Calls Try.prog 14 #[.agg #[.int .i64 n.k, .int .i64 n.z, v]] w fun e w' => ∃ g c, e = .returned (.tuple #[.slice (some ⟨g, 0, none⟩) 0 c, .int .i64 1]) ∧ Own 5 w' w.heap.size (.slice (some ⟨g, 0, none⟩) 0 c) [] ∧ Below w.heap.size w w' := by
  obtain ⟨A, c, rfl, hc, hm⟩ := hv.shape
  have HB := Lib.hid ((Below.refl w.heap.size w).alloc (Nat.le_refl _) (.cells #[.int .i64 n.k, .int .i64 n.z, .slice A n.es.length c] 24))
  have KC := Lib.hid (irefRight_any n _ _ (hv.after HB.out))
  rw [decide_eq_false h] at KC
  obtain ⟨W, hW⟩ : ∃ W, W = w.alloc (.cells #[.int .i64 n.k, .int .i64 n.z, .slice A n.es.length c] 24) := ⟨_, rfl⟩
  clear hv h
  go_enter Try.func14, Try.ntmps14
  rw [← hW] at HB KC
  go_wp2_with fail
  rw [← hW]
  refine KC.out.mono ?_
  rintro e w1 ⟨rfl, h1⟩
  have T1 := HB.out.trans (h1.mono HB.out.size)
  have O1 := Lib.hid (Own.made (e := 5) (w := w1) (base := w.heap.size) #[] 0 T1.size (by simp [maxLen]) rfl w1.heap.size rfl)
  have HT := Lib.hid (T1.alloc T1.size (.cells #[] 5))
  clear T1 h1 KC
  go_wp2_with fail
  go_ret2
  exact ⟨_, _, rfl, O1.out, HT.out⟩
set_option maxHeartbeats 8000000 in
set_option maxRecDepth 100000 in
theorem refWrite_file (n : IN) (v : Value) (w : World) (hv : Ents w w.heap.size v n.es) (h : n.file) :
    Calls Try.prog 14 #[.agg #[.int .i64 n.k, .int .i64 n.z, v]] w fun e w' => ∃ g c, e = .returned (.tuple #[.slice (some ⟨g, 0, none⟩) n.bytes.length c, .int .i64 0]) ∧ Own 5 w' w.heap.size (.slice (some ⟨g, 0, none⟩) n.bytes.length c) n.bytes ∧ Below w.heap.size w w' := by
  obtain ⟨A, c, rfl, hc, hm⟩ := hv.shape
  have HB := Lib.hid ((Below.refl w.heap.size w).alloc (Nat.le_refl _) (.cells #[.int .i64 n.k, .int .i64 n.z, .slice A n.es.length c] 24))
  have KC := Lib.hid (irefRight_any n _ _ (hv.after HB.out))
  rw [decide_eq_true (show n.ok from .inl h)] at KC
  have BX := Lib.hid (fun w' => box3 w (.int .i64 n.k) (.int .i64 n.z) (.slice A n.es.length c) 24 (w' := w'))
  obtain ⟨W, hW⟩ : ∃ W, W = w.alloc (.cells #[.int .i64 n.k, .int .i64 n.z, .slice A n.es.length c] 24) := ⟨_, rfl⟩
  obtain ⟨k, z, es⟩ := n
  obtain ⟨h1, h2, h3, h4⟩ := h
  simp only at h1 h2 h3 h4
  subst h1
  obtain ⟨q, rfl⟩ : ∃ q : Nat, z = q := ⟨z.toNat, by omega⟩
  obtain ⟨q0, hq0⟩ : ∃ q0, q % 256 = q0 := ⟨_, rfl⟩
  obtain ⟨q1, hq1⟩ : ∃ q1, q / 256 = q1 := ⟨_, rfl⟩
  have hnb : IN.bytes ⟨1, q, es⟩ = [UInt8.ofNat 1, UInt8.ofNat q0, UInt8.ofNat q1] := by
    have e0 : UInt8.ofNat q = UInt8.ofNat q0 := by
      apply UInt8.toNat_inj.1
      rw [UInt8.toNat_ofNat', UInt8.toNat_ofNat']
      omega
    unfold IN.bytes
    rw [if_pos rfl, ← hq1, ← e0]
    rfl
  have hcs : (#[.int .u8 1, .int .u8 (q0 : Int), .int .u8 (q1 : Int)] : Array Value).toList = bv [UInt8.ofNat 1, UInt8.ofNat q0, UInt8.ofNat q1] := by
    show _ = [Value.int .u8 ((UInt8.ofNat 1).toNat : Int), .int .u8 ((UInt8.ofNat q0).toNat : Int), .int .u8 ((UInt8.ofNat q1).toNat : Int)]
    rw [ofNat_toInt (by omega), ofNat_toInt (by omega), ofNat_toInt (by omega)]
    rfl
  have HCS := Lib.hid hcs
  have i1 : (q : Int) % 256 = (q0 : Int) := by omega
  have i2 : (q : Int) / 256 = (q1 : Int) := by omega
  have u0 : (q0 : Int) < 256 := by omega
  have u1 : (q1 : Int) < 256 := by omega
  have i0 : ((1 : Int) == 1) = true := rfl
  have uq : (q : Int) ≤ 768 := by omega
  rw [hnb]
  simp only [List.length_cons, List.length_nil]
  obtain ⟨L, hL⟩ : ∃ L, [UInt8.ofNat 1, UInt8.ofNat q0, UInt8.ofNat q1] = L := ⟨_, rfl⟩
  have HLL : Hid (L.length = 3) := Lib.hid (by rw [← hL]; rfl)
  rw [hL] at HCS ⊢
  simp only at HB KC BX hW hc
  clear hv h2 h3 h4 hnb hcs hL hq0 hq1
  go_enter Try.func14, Try.ntmps14
  rw [← hW] at HB KC BX
  go_wp2_with fail
  rw [← hW]
  obtain ⟨g1, hg1⟩ : ∃ g1, w.heap.size = g1 := ⟨_, rfl⟩
  have HG1 := Lib.hid hg1
  rw [hg1] at BX ⊢
  clear hW hg1
  refine KC.out.mono ?_
  rintro e w1 ⟨rfl, b1⟩
  obtain ⟨c11, c12, c13⟩ := BX.out _ b1
  have T1 := HB.out.trans (b1.mono HB.out.size)
  have O1 := Lib.hid (own_new (e := 5) w1 w.heap.size T1.size #[.int .u8 1, .int .u8 (q0 : Int), .int .u8 (q1 : Int)] L HCS.out (by rw [HLL.out]; simp [maxLen]) 3 HLL.out.symm)
  have HT := Lib.hid (T1.alloc T1.size (.cells #[.int .u8 1, .int .u8 (q0 : Int), .int .u8 (q1 : Int)] 5))
  clear T1 b1 KC
  go_wp2_with fail
  go_ret2
  exact ⟨_, _, rfl, O1.out, HT.out⟩
set_option maxHeartbeats 16000000 in
set_option maxRecDepth 100000 in
theorem refWrite_dir (n : IN) (v : Value) (w : World) (hv : Ents w w.heap.size v n.es) (h : n.dir) :
    Calls Try.prog 14 #[.agg #[.int .i64 n.k, .int .i64 n.z, v]] w fun e w' => ∃ g c, e = .returned (.tuple #[.slice (some ⟨g, 0, none⟩) n.bytes.length c, .int .i64 0]) ∧ Own 5 w' w.heap.size (.slice (some ⟨g, 0, none⟩) n.bytes.length c) n.bytes ∧ Below w.heap.size w w' := by
  obtain ⟨A, c, rfl, hc, hm⟩ := hv.shape
  have HB := Lib.hid ((Below.refl w.heap.size w).alloc (Nat.le_refl _) (.cells #[.int .i64 n.k, .int .i64 n.z, .slice A n.es.length c] 24))
  have KC := Lib.hid (irefRight_any n _ _ (hv.after HB.out))
  have HBW := Lib.hid (hv.after HB.out)
  rw [decide_eq_true (show n.ok from .inr h)] at KC
  have BX := Lib.hid (fun w' => box3 w (.int .i64 n.k) (.int .i64 n.z) (.slice A n.es.length c) 24 (w' := w'))
  obtain ⟨W, hW⟩ : ∃ W, W = w.alloc (.cells #[.int .i64 n.k, .int .i64 n.z, .slice A n.es.length c] 24) := ⟨_, rfl⟩
  have H1W : Hid (w.heap.size < W.heap.size) := Lib.hid (by rw [hW]; simp)
  obtain ⟨k, z, es⟩ := n
  obtain ⟨h1, h2, h3, h4⟩ := h
  simp only at h1 h2 h3 h4
  subst h1
  subst h2
  obtain ⟨N, hN⟩ : ∃ N, es.length = N := ⟨_, rfl⟩
  have hnb : IN.bytes ⟨2, 0, es⟩ = [UInt8.ofNat 2, UInt8.ofNat N] ++ es.flatMap ebytes := by unfold IN.bytes; rw [if_neg (by simp), ← hN]; rfl
  have HGA := Lib.hid (good_all h4)
  have HFL := Lib.hid (flat_bytes_le es (good_all h4))
  have hcs : (#[.int .u8 2, .int .u8 (N : Int)] : Array Value).toList = bv [UInt8.ofNat 2, UInt8.ofNat N] := by
    show _ = [Value.int .u8 ((UInt8.ofNat 2).toNat : Int), .int .u8 ((UInt8.ofNat N).toNat : Int)]
    rw [ofNat_toInt (by omega), ofNat_toInt (by omega)]
    rfl
  have HCS := Lib.hid hcs
  have i0 : ((2 : Int) == 1) = false := rfl
  have uN : (N : Int) ≤ 8 := by omega
  rw [hnb]
  obtain ⟨NB, hNB⟩ : ∃ NB, [UInt8.ofNat 2, UInt8.ofNat N] ++ es.flatMap ebytes = NB := ⟨_, rfl⟩
  obtain ⟨M, hM⟩ : ∃ M, NB.length = M := ⟨_, rfl⟩
  rw [hNB, hM]
  have HNB := Lib.hid hNB
  have HM := Lib.hid hM
  have HM0 : Hid (0 < M) := Lib.hid (by rw [← hM, ← hNB]; simp)
  clear hNB hM
  obtain ⟨ti, hi, hz, hs, hby⟩ := infoB'
  simp only at HB KC BX hW hc HBW
  rw [hN] at HB KC BX hW hc HBW ⊢
  have HN := Lib.hid hN
  clear hv h3 h4 hnb hcs hN
  go_enter Try.func14, Try.ntmps14
  rw [← hW] at HB KC BX HBW
  go_wp2_with fail
  rw [← hW]
  obtain ⟨g1, hg1⟩ : ∃ g1, w.heap.size = g1 := ⟨_, rfl⟩
  have HG1 := Lib.hid hg1
  rw [hg1] at BX ⊢
  clear hW hg1
  refine KC.out.mono ?_
  rintro e w1 ⟨rfl, b1⟩
  obtain ⟨c11, c12, c13⟩ := BX.out _ b1
  have T0 : Below W.heap.size W w1 := b1
  have O1 := Lib.hid (own_new (e := 5) w1 W.heap.size T0.size #[.int .u8 2, .int .u8 (N : Int)] [UInt8.ofNat 2, UInt8.ofNat N] HCS.out (by simp [maxLen]) 2 rfl)
  have HT := Lib.hid (T0.alloc T0.size (.cells #[.int .u8 2, .int .u8 (N : Int)] 5))
  clear T0 b1 KC
  go_wp2_with fail
  clear c11 c12 c13
  go_loopg [4, 5] N (fun g s i wx => ∃ q : Nat, ∃ A4 m c4, ∃ L : List UInt8, q + g = N ∧ i = .int .i64 q ∧ s = .slice A4 m c4 ∧ Hid (m = L.length) ∧ Hid (Own 5 wx W.heap.size (.slice A4 m c4) L) ∧ Hid (Below W.heap.size W wx) ∧ Hid (L = [UInt8.ofNat 2, UInt8.ofNat N] ++ (es.take q).flatMap ebytes))
  case atStart => exact ⟨0, _, 2, _, _, by omega, rfl, rfl, Lib.hid rfl, O1, HT, Lib.hid (by simp)⟩
  case round =>
    obtain ⟨q, A4, m, c4, L, hq, rfl, rfl, hmL, hO, hB, hL⟩ := hrel
    have x2 := (BX.out _ hB.out).2.2
    cases gk with
    | zero =>
      obtain rfl : q = N := by omega
      have i4 : ¬ (q : Int) < (q : Int) := by omega
      clear hq
      go_wp2_with fail
      go_ret2
      have hL2 : L = NB := by rw [hL.out, List.take_of_length_le (by rw [HN.out]; exact Nat.le_refl _), HNB.out]
      have hO2 := hO.out
      obtain rfl : m = M := by rw [hmL.out, hL2, HM.out]
      rw [hL2] at hO2
      obtain ⟨x, rfl, _, _⟩ := hO2.addr (by rw [HM.out]; exact HM0.out)
      exact ⟨_, _, rfl, hO2.lower (by have := H1W.out; omega), HB.out.trans (hB.out.mono HB.out.size)⟩
    | succ g =>
      have hlt : q < es.length := by rw [HN.out]; omega
      have i4 : (q : Int) < (N : Int) := by omega
      have HE0 := Lib.hid (show es[q]? = some (atE es q) from atE_get hlt)
      obtain ⟨a, rfl, _, _⟩ := (HBW.out.below hB.out).elem HE0.out
      have hok := okE_facts (HGA.out (atE es q) (List.mem_of_getElem? HE0.out))
      obtain ⟨E, hE⟩ : ∃ E, atE es q = E := ⟨_, rfl⟩
      rw [hE] at hok HE0
      obtain ⟨en, ei⟩ := E
      obtain ⟨o1, o2, o3⟩ := hok
      simp only at o1 o2 o3
      obtain ⟨ei, rfl⟩ : ∃ x : Nat, ei = x := ⟨ei.toNat, by omega⟩
      have HS : Hid (∀ w', Below W.heap.size W w' → w'.cell? ⟨g1, 2, none⟩ = some (.slice (some a) N c) ∧ w'.cell? (a.add (q * 2)) = some (.string en) ∧ w'.cell? ((a.add (q * 2)).add 1) = some (.int .i64 (ei : Int))) := Lib.hid fun w' hb => by
        obtain ⟨a', e', _, hck⟩ := (HBW.out.below hb).elem HE0.out
        cases e'
        exact ⟨(BX.out _ hb).2.2, first_cell (hck 0 _ rfl), hck 1 _ rfl⟩
      have hm2 : m ≤ 114 := by
        have h5 := flat_bytes_le (es.take q) fun e he => HGA.out e (List.mem_of_mem_take he)
        rw [hmL.out, hL.out, List.length_append]
        have h6 : (es.take q).length ≤ q := List.length_take_le q es
        simp only [List.length_cons, List.length_nil]
        omega
      have u1 : (ei : Int) < 256 := by omega
      have u2 : (en.size : Int) < 256 := by omega
      have T1 := Lib.hid (hB.out.trans ((Below.refl wr.heap.size wr).mono hB.out.size)).drew
      have S1 := HS.out _ T1.out
      have HBV : Hid (bv [UInt8.ofNat ei, UInt8.ofNat en.size] = [.int .u8 (ei : Int), .int .u8 (en.size : Int)]) := Lib.hid (by
        show [Value.int .u8 ((UInt8.ofNat ei).toNat : Int), .int .u8 ((UInt8.ofNat en.size).toNat : Int)] = _
        rw [ofNat_toInt (by omega), ofNat_toInt (by omega)])
      clear hE
      go_wp2_with fail
      clear x2
      refine wp_region_held_drew (S := (fun w' => w'.cell? ⟨g1, 2, none⟩ = some (.slice (some a) N c) ∧ w'.cell? (a.add (q * 2)) = some (.string en) ∧ w'.cell? ((a.add (q * 2)).add 1) = some (.int .i64 (ei : Int)))) (by kernel_rfl) S1 (fun _ => ?_)
      refine wpAnyH_take (i := 0) (v := .slice A4 m c4) rfl (by kernel_rfl) (by kernel_rfl) (by kernel_rfl) (fun _ _ _ h => h) (Or.inl ⟨by kernel_rfl, fun w _ => by go_simp⟩) S1 ?_
      simp only [Act.put, List.getElem_toArray, List.getElem_cons_zero, List.setIfInBounds_toArray, List.set_cons_zero, List.set_cons_succ]
      refine wpAnyH_take (i := 1) (v := .pointer (some ⟨g1, 2, none⟩)) rfl (by kernel_rfl) (by kernel_rfl) (by kernel_rfl) (fun _ _ _ h => h) (Or.inl ⟨by kernel_rfl, fun w _ => by go_simp⟩) S1 ?_
      simp only [Act.put, List.getElem_toArray, List.getElem_cons_zero, List.getElem_cons_succ, List.setIfInBounds_toArray, List.set_cons_zero, List.set_cons_succ]
      refine wpAnyH_take (i := 2) (v := .slice (some a) N c) rfl (by kernel_rfl) (by kernel_rfl) (by kernel_rfl) (fun _ _ _ h => h) (yields_one (ty := 22) (fun w => by kernel_rfl) (.tmp 35) (by kernel_rfl) (by kernel_rfl) (by kernel_rfl) (fun w h => h.1)) S1 ?_
      simp only [Act.put, List.getElem_toArray, List.getElem_cons_zero, List.getElem_cons_succ, List.setIfInBounds_toArray, List.set_cons_zero, List.set_cons_succ]
      refine wpAnyH_take (i := 3) (v := .int .i64 (q : Int)) rfl (by kernel_rfl) (by kernel_rfl) (by kernel_rfl) (fun _ _ _ h => h) (Or.inl ⟨by kernel_rfl, fun w _ => by go_simp⟩) S1 ?_
      simp only [Act.put, List.getElem_toArray, List.getElem_cons_zero, List.getElem_cons_succ, List.setIfInBounds_toArray, List.set_cons_zero, List.set_cons_succ]
      refine wpAnyH_take (i := 4) (v := .pointer (some (a.add (q * 2)))) rfl (by kernel_rfl) (by kernel_rfl) (by kernel_rfl) (fun _ _ _ h => h) (Or.inl ⟨by kernel_rfl, fun w _ => by go_simp⟩) S1 ?_
      simp only [Act.put, List.getElem_toArray, List.getElem_cons_zero, List.getElem_cons_succ, List.setIfInBounds_toArray, List.set_cons_zero, List.set_cons_succ]
      refine wpAnyH_take (i := 5) (v := .pointer (some ((a.add (q * 2)).add 1))) rfl (by kernel_rfl) (by kernel_rfl) (by kernel_rfl) (fun _ _ _ h => h) (Or.inl ⟨by kernel_rfl, fun w _ => by go_simp⟩) S1 ?_
      simp only [Act.put, List.getElem_toArray, List.getElem_cons_zero, List.getElem_cons_succ, List.setIfInBounds_toArray, List.set_cons_zero, List.set_cons_succ]
      refine wpAnyH_take (i := 6) (v := .int .i64 (ei : Int)) rfl (by kernel_rfl) (by kernel_rfl) (by kernel_rfl) (fun _ _ _ h => h) (yields_one (ty := 3) (fun w => by kernel_rfl) (.tmp 39) (by kernel_rfl) (by kernel_rfl) (by kernel_rfl) (fun w h => h.2.2)) S1 ?_
      simp only [Act.put, List.getElem_toArray, List.getElem_cons_zero, List.getElem_cons_succ, List.setIfInBounds_toArray, List.set_cons_zero, List.set_cons_succ]
      refine wpAnyH_take (i := 7) (v := .int .u8 (ei : Int)) rfl (by kernel_rfl) (by kernel_rfl) (by kernel_rfl) (fun _ _ _ h => h) (Or.inl ⟨by kernel_rfl, fun w _ => by go_simp; exact wrap_u8_id (by omega)⟩) S1 ?_
      simp only [Act.put, List.getElem_toArray, List.getElem_cons_zero, List.getElem_cons_succ, List.setIfInBounds_toArray, List.set_cons_zero, List.set_cons_succ]
      refine wpAnyH_take (i := 8) (v := .pointer (some ⟨g1, 2, none⟩)) rfl (by kernel_rfl) (by kernel_rfl) (by kernel_rfl) (fun _ _ _ h => h) (Or.inl ⟨by kernel_rfl, fun w _ => by go_simp⟩) S1 ?_
      simp only [Act.put, List.getElem_toArray, List.getElem_cons_zero, List.getElem_cons_succ, List.setIfInBounds_toArray, List.set_cons_zero, List.set_cons_succ]
      refine wpAnyH_take (i := 9) (v := .slice (some a) N c) rfl (by kernel_rfl) (by kernel_rfl) (by kernel_rfl) (fun _ _ _ h => h) (yields_one (ty := 22) (fun w => by kernel_rfl) (.tmp 42) (by kernel_rfl) (by kernel_rfl) (by kernel_rfl) (fun w h => h.1)) S1 ?_
      simp only [Act.put, List.getElem_toArray, List.getElem_cons_zero, List.getElem_cons_succ, List.setIfInBounds_toArray, List.set_cons_zero, List.set_cons_succ]
      refine wpAnyH_take (i := 10) (v := .int .i64 (q : Int)) rfl (by kernel_rfl) (by kernel_rfl) (by kernel_rfl) (fun _ _ _ h => h) (Or.inl ⟨by kernel_rfl, fun w _ => by go_simp⟩) S1 ?_
      simp only [Act.put, List.getElem_toArray, List.getElem_cons_zero, List.getElem_cons_succ, List.setIfInBounds_toArray, List.set_cons_zero, List.set_cons_succ]
      refine wpAnyH_take (i := 11) (v := .pointer (some (a.add (q * 2)))) rfl (by kernel_rfl) (by kernel_rfl) (by kernel_rfl) (fun _ _ _ h => h) (Or.inl ⟨by kernel_rfl, fun w _ => by go_simp⟩) S1 ?_
      simp only [Act.put, List.getElem_toArray, List.getElem_cons_zero, List.getElem_cons_succ, List.setIfInBounds_toArray, List.set_cons_zero, List.set_cons_succ]
      refine wpAnyH_take (i := 12) (v := .pointer (some (a.add (q * 2)))) rfl (by kernel_rfl) (by kernel_rfl) (by kernel_rfl) (fun _ _ _ h => h) (Or.inl ⟨by kernel_rfl, fun w _ => by go_simp⟩) S1 ?_
      simp only [Act.put, List.getElem_toArray, List.getElem_cons_zero, List.getElem_cons_succ, List.setIfInBounds_toArray, List.set_cons_zero, List.set_cons_succ]
      refine wpAnyH_take (i := 13) (v := .string en) rfl (by kernel_rfl) (by kernel_rfl) (by kernel_rfl) (fun _ _ _ h => h) (yields_one (ty := 9) (fun w => by kernel_rfl) (.tmp 46) (by kernel_rfl) (by kernel_rfl) (by kernel_rfl) (fun w h => h.2.1)) S1 ?_
      simp only [Act.put, List.getElem_toArray, List.getElem_cons_zero, List.getElem_cons_succ, List.setIfInBounds_toArray, List.set_cons_zero, List.set_cons_succ]
      refine wpAnyH_take (i := 14) (v := .int .i64 (en.size : Int)) rfl (by kernel_rfl) (by kernel_rfl) (by kernel_rfl) (fun _ _ _ h => h) (Or.inl ⟨by kernel_rfl, fun w _ => by go_simp⟩) S1 ?_
      simp only [Act.put, List.getElem_toArray, List.getElem_cons_zero, List.getElem_cons_succ, List.setIfInBounds_toArray, List.set_cons_zero, List.set_cons_succ]
      refine wpAnyH_take (i := 15) (v := .int .u8 (en.size : Int)) rfl (by kernel_rfl) (by kernel_rfl) (by kernel_rfl) (fun _ _ _ h => h) (Or.inl ⟨by kernel_rfl, fun w _ => by go_simp; exact wrap_u8_id (by omega)⟩) S1 ?_
      simp only [Act.put, List.getElem_toArray, List.getElem_cons_zero, List.getElem_cons_succ, List.setIfInBounds_toArray, List.set_cons_zero, List.set_cons_succ]
      refine wpAnyH_ready (rs := [16]) (by kernel_rfl) (by simp) (AllReadyH.cons rfl (fun K hK => ?_) AllReadyH.nil)
      go_simp
      have T2 := Lib.hid ((hB.out.alloc hB.out.size (.cells #[.int .u8 (ei : Int), .int .u8 (en.size : Int)] 5)).drew)
      have O2 : Hid (Own 5 (wr.alloc (.cells #[.int .u8 (ei : Int), .int .u8 (en.size : Int)] 5)).drew W.heap.size (.slice A4 m c4) L) := Lib.hid ((hO.out.alloc (.cells #[.int .u8 (ei : Int), .int .u8 (en.size : Int)] 5)).kept (row := none) (only_of_below (Below.refl _ _).drew none) (by cases (Value.slice A4 m c4).ownBlock <;> simp))
      have D2 : Hid (Bytes (wr.alloc (.cells #[.int .u8 (ei : Int), .int .u8 (en.size : Int)] 5)).drew (wr.alloc (.cells #[.int .u8 (ei : Int), .int .u8 (en.size : Int)] 5)).drew.heap.size (.slice (some ⟨wr.heap.size, 0, none⟩) 2 2) [UInt8.ofNat ei, UInt8.ofNat en.size]) := Lib.hid (((own_new (e := 5) wr 0 (Nat.zero_le _) #[.int .u8 (ei : Int), .int .u8 (en.size : Int)] [UInt8.ofNat ei, UInt8.ofNat en.size] HBV.out.symm (by simp [maxLen]) 2 rfl).bytes (by simp [maxLen])).below (Below.refl _ _).drew)
      have S2 := HS.out _ T2.out
      obtain ⟨W2, hW2⟩ : ∃ W2, W2 = (wr.alloc (.cells #[.int .u8 (ei : Int), .int .u8 (en.size : Int)] 5)).drew := ⟨_, rfl⟩
      rw [← hW2] at T2 O2 D2 S2 ⊢
      obtain ⟨gx, hgx⟩ : ∃ gx, wr.heap.size = gx := ⟨_, rfl⟩
      rw [hgx] at D2 ⊢
      clear hW2 hgx
      refine hK _ _ S2 (fun _ => ?_)
      clear hK K
      refine wpAnyH_ready (rs := [17]) (by kernel_rfl) (by simp) (AllReadyH.cons rfl (fun K hK => ?_) AllReadyH.nil)
      refine step_append_bytes_by byteTys (by kernel_rfl) (.tmp 34) (.tmp 50) (by kernel_rfl) (by kernel_rfl) O2.out W2.heap.size (.slice (some ⟨gx, 0, none⟩) 2 2) [UInt8.ofNat ei, UInt8.ofNat en.size] (by kernel_rfl) D2.out (by rw [← hmL.out]; simp only [List.length_cons, List.length_nil]; omega) T2.out.size (m + 2) (by rw [← hmL.out]; rfl) ?_
      intro A9 c9 w9 O9 g9
      have HO9 := Lib.hid O9
      have HB9 := Lib.hid (T2.out.grown g9 T2.out.size fun x hx => (World.ownsRow.lt O2.out x hx).1)
      have S9 := HS.out _ HB9.out
      clear O9 g9
      refine hK _ _ S9 (fun _ => ?_)
      clear hK K
      refine wpAnyH_take (i := 18) (v := .slice A9 (m + 2) c9) rfl (by kernel_rfl) (by kernel_rfl) (by kernel_rfl) (fun _ _ _ h => h) (Or.inl ⟨by kernel_rfl, fun w _ => by go_simp⟩) S9 ?_
      simp only [Act.put, List.getElem_toArray, List.getElem_cons_zero, List.getElem_cons_succ, List.setIfInBounds_toArray, List.set_cons_zero, List.set_cons_succ]
      refine wpAnyH_done (by kernel_rfl) ?_ _
      obtain ⟨s91, s92, s93⟩ := S9
      clear S1 S2
      have HR9 : Hid (w9.ownsRow W.heap.size 5 1 (.slice A9 (m + 2) c9) (m + 2) (bv (L ++ [UInt8.ofNat ei, UInt8.ofNat en.size]))) := Lib.hid (by
        have h := HO9.out
        unfold Own at h
        rw [List.length_append, ← hmL.out] at h
        exact h)
      go_wp2_with (at_builtin; refine Go.Lib.wpList_append_own_string _ rfl (.tmp 52) (.tmp 58) 27 9 rfl W.heap.size 5 ti Try.underlying27 Try.underlying9 hi hz hs hby (.slice A9 (m + 2) c9) (m + 2) _ rfl HR9.out en rfl (by simp only [maxLen]; omega) (by omega) HB9.out.size ?_; intro v8 w8 O8 g8 e8)
      have O8b : Own 5 w8 W.heap.size v8 (L ++ [UInt8.ofNat ei, UInt8.ofNat en.size] ++ en.data.toList) := by
        unfold Own
        rw [List.length_append, List.length_append, ← hmL.out, bv_append, ← Lib.size_eq, ← strCells_bv]
        exact O8
      obtain ⟨A8, c8, rfl, _, _⟩ := O8b.shape
      obtain ⟨m8, hm8⟩ : ∃ m8, (L ++ [UInt8.ofNat ei, UInt8.ofNat en.size] ++ en.data.toList).length = m8 := ⟨_, rfl⟩
      rw [hm8] at O8b ⊢
      have HO8 := Lib.hid O8b
      have HM8 := Lib.hid hm8.symm
      have HB8 := Lib.hid (HB9.out.grown g8 HB9.out.size fun x hx => (World.ownsRow.lt HO9.out x hx).1)
      clear O8 O8b hm8 g8 e8
      go_roundg g
      case measure => omega
      case rel => exact ⟨q + 1, A8, m8, c8, _, by omega, by go_num, rfl, HM8, HO8, HB8, Lib.hid (by rw [take_snoc _ HE0.out, List.flatMap_append, hL.out, List.append_assoc, List.append_assoc]; simp [ebytes_eq])⟩
end Go.Proofs.Yteihffmenfobaaa

