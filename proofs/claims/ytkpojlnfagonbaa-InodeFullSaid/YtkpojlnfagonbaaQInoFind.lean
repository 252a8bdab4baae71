/- What Find of inode answers. No condition but that the entries are there. -/
import Derived.Test.YtkpojlnfagonbaaQInoCheck
namespace Go.Proofs.Ytkpojlnfagonbaa
open Go.RowKit Go.Shelf
/-- the first entry of a name: its inode, and whether there is one -/
def findL : List EN → ByteArray → Int × Bool
  | [], _ => (0, false)
  | e :: es, s => if e.n.toList = s.toList then (e.i, true) else findL es s
theorem findL_drop {es : List EN} {q : Nat} (h : q < es.length) (s : ByteArray) : findL (es.drop q) s = if (atE es q).n.toList = s.toList then ((atE es q).i, true) else findL (es.drop (q + 1)) s := by
  rw [List.drop_eq_getElem_cons h]
  have e : es[q] = atE es q := by
    have := atE_get h
    rw [List.getElem?_eq_getElem h] at this
    exact Option.some.inj this
  rw [e]
  rfl
set_option maxRecDepth 100000 in
set_option maxHeartbeats 4000000 in
theorem find_any (n : IN) (v : Value) (s : ByteArray) (w : World) (hv : Ents w w.heap.size v n.es) :
    Calls Try.prog 17 #[.agg #[.int .i64 n.k, .int .i64 n.z, v], .string s] w fun e w' => e = .returned (.tuple #[.int .i64 (findL n.es s).1, .bool (findL n.es s).2]) ∧ Below w.heap.size w w' := by
  have HV := Lib.hid hv
  obtain ⟨A, c, rfl, hc, hm⟩ := hv.shape
  have HB := Lib.hid ((Below.refl w.heap.size w).alloc (Nat.le_refl _) (.cells #[.int .i64 n.k, .int .i64 n.z, .slice A n.es.length c] 24))
  clear hv
  obtain ⟨k, z, es⟩ := n
  simp only at hc HB HV ⊢
  obtain ⟨F, hF⟩ : ∃ F, findL es s = F := ⟨_, rfl⟩
  have HF := Lib.hid hF
  rw [hF]
  clear hF
  obtain ⟨W, hW⟩ : ∃ W, W = w.alloc (.cells #[.int .i64 k, .int .i64 z, .slice A es.length c] 24) := ⟨_, rfl⟩
  have HBW := Lib.hid (HV.out.after HB.out)
  go_enter Try.func17, Try.ntmps17
  go_wp2_with fail
  rw [← hW] at HB HBW ⊢
  obtain ⟨g1, hg1⟩ : ∃ g1, w.heap.size = g1 := ⟨_, rfl⟩
  have HG1 := Lib.hid hg1
  rw [hg1]
  clear hW hg1
  go_loopg [7, 11] es.length (fun g _ i wx => ∃ q : Nat, q + g = es.length ∧ i = .int .i64 q ∧ Hid (Below W.heap.size W wx) ∧ Hid (findL (es.drop q) s = F))
  case atStart => exact ⟨0, by omega, rfl, Lib.hid (Below.refl _ _), HF⟩
  case round =>
    obtain ⟨q, hq, rfl, hB, hE⟩ := hrel
    cases gk with
    | zero =>
      obtain rfl : q = es.length := by omega
      have i4 : ¬ (es.length : Int) < (es.length : Int) := by omega
      have hE2 := hE.out
      rw [List.drop_length] at hE2
      obtain rfl : F = (0, false) := hE2.symm
      clear hE2
      go_wp2_with fail
      go_ret2
      exact ⟨rfl, HB.out.trans (hB.out.mono HB.out.size)⟩
    | succ g =>
      have hlt : q < es.length := by omega
      have i4 : (q : Int) < (es.length : Int) := by omega
      have HD := Lib.hid (findL_drop hlt s)
      obtain ⟨a, rfl, hab, hck⟩ := (HBW.out.below hB.out).elem (atE_get hlt)
      obtain ⟨E, hEE⟩ : ∃ E, atE es q = E := ⟨_, rfl⟩
      rw [hEE] at hck HD
      have HCK2 : Hid (∀ j u, ([.string E.n, .int .i64 E.i] : List Value)[j]? = some u → wr.cell? ((a.add (q * 2)).add j) = some u) := Lib.hid hck
      have HB4 := Lib.hid (hB.out.alloc hB.out.size (.cells #[.string E.n, .int .i64 E.i] 32))
      clear hck hEE
      by_cases hs : E.n.toList = s.toList
      · have i5 : (E.n.toList == s.toList) = true := by simpa using hs
        have hx := hE.out
        rw [HD.out, if_pos hs] at hx
        subst hx
        clear hs
        go_wp2_with (with_reducible refine wpl_cells (q := a.add (q * 2)) (row := [.string E.n, .int .i64 E.i]) aggE sizeE (.tmp 13) rfl rfl rfl rfl HCK2.out ?_)
        go_ret2
        exact ⟨rfl, HB.out.trans (HB4.out.mono HB.out.size)⟩
      · have i5 : (E.n.toList == s.toList) = false := by simpa using hs
        have hx := hE.out
        rw [HD.out, if_neg hs] at hx
        have HX := Lib.hid hx
        clear hs hx
        go_wp2_with (with_reducible refine wpl_cells (q := a.add (q * 2)) (row := [.string E.n, .int .i64 E.i]) aggE sizeE (.tmp 13) rfl rfl rfl rfl HCK2.out ?_)
        go_roundg g
        case measure => omega
        case rel => exact ⟨q + 1, by omega, by go_num, HB4, HX⟩
end Go.Proofs.Ytkpojlnfagonbaa

