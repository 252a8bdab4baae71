/- What the document's Find of an inode answers. No condition but that the entries are there. -/
import Derived.Test.YtkpojlnfagonbaaQInoFind
import Derived.Test.YtkpojlnfagonbaaQInoRef
namespace Go.Proofs.Ytkpojlnfagonbaa
open Go.RowKit Go.Shelf
set_option maxRecDepth 100000 in
set_option maxHeartbeats 4000000 in
theorem refFind_any (n : IN) (v : Value) (s : ByteArray) (w : World) (hv : Ents w w.heap.size v n.es) :
    Calls Try.prog 18 #[.agg #[.int .i64 n.k, .int .i64 n.z, v], .string s] w fun e w' => e = .returned (.tuple #[.int .i64 (findL n.es s).1, .bool (findL n.es s).2]) ∧ Below w.heap.size w w' := by
  have HV := Lib.hid hv
  obtain ⟨A, c, rfl, hc, hm⟩ := hv.shape
  have HB := Lib.hid ((Below.refl w.heap.size w).alloc (Nat.le_refl _) (.cells #[.int .i64 n.k, .int .i64 n.z, .slice A n.es.length c] 24))
  have BX := Lib.hid (fun w' => box3 w (.int .i64 n.k) (.int .i64 n.z) (.slice A n.es.length c) 24 (w' := w'))
  clear hv
  obtain ⟨k, z, es⟩ := n
  simp only at hc HB HV BX ⊢
  obtain ⟨F, hF⟩ : ∃ F, findL es s = F := ⟨_, rfl⟩
  have HF := Lib.hid hF
  rw [hF]
  clear hF
  obtain ⟨W, hW⟩ : ∃ W, W = w.alloc (.cells #[.int .i64 k, .int .i64 z, .slice A es.length c] 24) := ⟨_, rfl⟩
  have HBW := Lib.hid (HV.out.after HB.out)
  go_enter Try.func18, Try.ntmps18
  go_wp2_with fail
  rw [← hW] at HB HBW BX ⊢
  obtain ⟨g1, hg1⟩ : ∃ g1, w.heap.size = g1 := ⟨_, rfl⟩
  have HG1 := Lib.hid hg1
  rw [hg1] at BX ⊢
  clear hW hg1
  go_loopg [6] es.length (fun g i wx => ∃ q : Nat, q + g = es.length ∧ i = .int .i64 q ∧ Hid (Below W.heap.size W wx) ∧ Hid (findL (es.drop q) s = F))
  case atStart => exact ⟨0, by omega, rfl, Lib.hid (Below.refl _ _), HF⟩
  case round =>
    obtain ⟨q, hq, rfl, hB, hE⟩ := hrel
    have x2 := (BX.out _ hB.out).2.2
    cases gk with
    | zero =>
      obtain rfl : q = es.length := by omega
      have i4 : ¬ (es.length : Int) < (es.length : Int) := by omega
      have hE2 := hE.out
      rw [List.drop_length] at hE2
      obtain rfl : F = (0, false) := hE2.symm
      clear hE2
      go_wp2_with fail
      go_ret2
      exact ⟨rfl, HB.out.trans (hB.out.mono HB.out.size)⟩
    | succ g =>
      have hlt : q < es.length := by omega
      have i4 : (q : Int) < (es.length : Int) := by omega
      have HD := Lib.hid (findL_drop hlt s)
      obtain ⟨a, rfl, hab, hck⟩ := (HBW.out.below hB.out).elem (atE_get hlt)
      obtain ⟨E, hEE⟩ : ∃ E, atE es q = E := ⟨_, rfl⟩
      rw [hEE] at hck HD
      have e1 := first_cell (hck 0 _ rfl)
      have e2 : wr.cell? ⟨(a.add (q * 2)).block, (a.add (q * 2)).off + 1, none⟩ = some (.int .i64 E.i) := hck 1 _ rfl
      clear hck hEE
      by_cases hs : E.n.toList = s.toList
      · have i5 : (E.n.toList == s.toList) = true := by simpa using hs
        have hx := hE.out
        rw [HD.out, if_pos hs] at hx
        subst hx
        clear hs
        go_wp2_with fail
        go_ret2
        exact ⟨rfl, HB.out.trans (hB.out.mono HB.out.size)⟩
      · have i5 : (E.n.toList == s.toList) = false := by simpa using hs
        have hx := hE.out
        rw [HD.out, if_neg hs] at hx
        have HX := Lib.hid hx
        clear hs hx
        go_wp2_with fail
        go_roundg g
        case measure => omega
        case rel => exact ⟨q + 1, by omega, by go_num, hB, HX⟩
end Go.Proofs.Ytkpojlnfagonbaa

