/- Which inodes are too great for layer 18's laws. No condition but that the entries are there. -/
import Derived.Test.YtkpojlnfagonbaaQInoCheck
namespace Go.Proofs.Ytkpojlnfagonbaa
open Go.RowKit Go.Shelf
def IsBool (e : Ending) : Prop := ∃ b, e = .returned (.bool b)
theorem IsBool.mk {e : Ending} (b : Bool) (h : e = .returned (.bool b)) : IsBool e := ⟨b, h⟩
set_option maxRecDepth 100000 in
set_option maxHeartbeats 4000000 in
theorem igreat_yes (n : IN) (v : Value) (w : World) (hv : Ents w w.heap.size v n.es) (h : 40 < n.es.length) :
    Calls Try.prog 10 #[.agg #[.int .i64 n.k, .int .i64 n.z, v]] w fun e w' => e = .returned (.bool true) ∧ Below w.heap.size w w' := by
  obtain ⟨A, c, rfl, hc, hm⟩ := hv.shape
  have HB := Lib.hid ((Below.refl w.heap.size w).alloc (Nat.le_refl _) (.cells #[.int .i64 n.k, .int .i64 n.z, .slice A n.es.length c] 24))
  have i1 : (40 : Int) < (n.es.length : Int) := by omega
  clear hv
  go_enter Try.func10, Try.ntmps10
  go_wp2
  go_ret
  exact ⟨rfl, HB.out⟩
set_option maxRecDepth 100000 in
set_option maxHeartbeats 4000000 in
theorem igreat_any (n : IN) (v : Value) (w : World) (hv : Ents w w.heap.size v n.es) (h : n.es.length ≤ 40) :
    Calls Try.prog 10 #[.agg #[.int .i64 n.k, .int .i64 n.z, v]] w fun e w' => IsBool e ∧ Below w.heap.size w w' := by
  have HV := Lib.hid hv
  obtain ⟨A, c, rfl, hc, hm⟩ := hv.shape
  have HB := Lib.hid ((Below.refl w.heap.size w).alloc (Nat.le_refl _) (.cells #[.int .i64 n.k, .int .i64 n.z, .slice A n.es.length c] 24))
  clear hv
  obtain ⟨k, z, es⟩ := n
  simp only at hc HB HV h ⊢
  have i1 : ¬ (40 : Int) < (es.length : Int) := by omega
  obtain ⟨W, hW⟩ : ∃ W, W = w.alloc (.cells #[.int .i64 k, .int .i64 z, .slice A es.length c] 24) := ⟨_, rfl⟩
  have HBW := Lib.hid (HV.out.after HB.out)
  go_enter Try.func10, Try.ntmps10
  go_wp2_with fail
  rw [← hW] at HB HBW ⊢
  obtain ⟨g1, hg1⟩ : ∃ g1, w.heap.size = g1 := ⟨_, rfl⟩
  have HG1 := Lib.hid hg1
  rw [hg1]
  clear hW hg1
  go_loopg [4, 12] es.length (fun g _ i wx => ∃ q : Nat, q + g = es.length ∧ i = .int .i64 q ∧ Hid (Below W.heap.size W wx))
  case atStart => exact ⟨0, by omega, rfl, Lib.hid (Below.refl _ _)⟩
  case round =>
    obtain ⟨q, hq, rfl, hB⟩ := hrel
    cases gk with
    | zero =>
      obtain rfl : q = es.length := by omega
      have i4 : ¬ (es.length : Int) < (es.length : Int) := by omega
      go_wp2_with fail
      go_ret
      exact ⟨IsBool.mk _ rfl, HB.out.trans (hB.out.mono HB.out.size)⟩
    | succ g =>
      have hlt : q < es.length := by omega
      have i4 : (q : Int) < (es.length : Int) := by omega
      obtain ⟨a, rfl, hab, hck⟩ := (HBW.out.below hB.out).elem (atE_get hlt)
      obtain ⟨E, hE⟩ : ∃ E, atE es q = E := ⟨_, rfl⟩
      rw [hE] at hck
      have HCK2 : Hid (∀ j u, ([.string E.n, .int .i64 E.i] : List Value)[j]? = some u → wr.cell? ((a.add (q * 2)).add j) = some u) := Lib.hid hck
      have HB4 := Lib.hid (hB.out.alloc hB.out.size (.cells #[.string E.n, .int .i64 E.i] 32))
      clear hck hE
      by_cases hs : E.n.size ≤ 100
      · have i5 : ¬ (100 : Int) < (E.n.size : Int) := by omega
        go_wp2_with (with_reducible refine wpl_cells (q := a.add (q * 2)) (row := [.string E.n, .int .i64 E.i]) aggE sizeE (.tmp 14) rfl rfl rfl rfl HCK2.out ?_)
        go_roundg g
        case measure => omega
        case rel => exact ⟨q + 1, by omega, by go_num, HB4⟩
      · have i5 : (100 : Int) < (E.n.size : Int) := by omega
        go_wp2_with (with_reducible refine wpl_cells (q := a.add (q * 2)) (row := [.string E.n, .int .i64 E.i]) aggE sizeE (.tmp 14) rfl rfl rfl rfl HCK2.out ?_)
        go_ret
        exact ⟨IsBool.mk _ rfl, HB.out.trans (HB4.out.mono HB.out.size)⟩
end Go.Proofs.Ytkpojlnfagonbaa

