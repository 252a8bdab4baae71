/- The contract of the reference's write: the first bytes of a page with the data's noughts. No condition but that the page is there. -/
import Derived.Test.YtjdegfblacbkoaaNandPower
import Derived.Test.YtjdegfblacbkoaaPageArr
namespace Go.Proofs.Ytjdegfblacbkoaa
open Go.RowKit
/-- in block g lie the pages, one behind the other -/
def Pgs (w : World) (g : Nat) (Ls : List (List UInt8)) : Prop := Blk w g 55 (bv Ls.flatten) ∧ ∀ l ∈ Ls, l.length = 258
theorem u8_and (x y : UInt8) : bits .and .u8 ((x.toNat : Nat) : Int) ((y.toNat : Nat) : Int) = (((x &&& y).toNat : Nat) : Int) := by
  rw [UInt8.toNat_and]
  exact u8_and_nat _ _ x.toNat_lt y.toNat_lt
set_option maxHeartbeats 2000000 in
theorem refWrite1 (c g : Nat) (cs : List Value) (Ls : List (List UInt8)) (N : Nat) (hN : Ls.length = N) (_ : N ≤ 320) (hcs : cs[1]? = some (.slice (some ⟨g, 0, none⟩) N N)) (hcg : c ≠ g) (p : Nat) (hp : p < Ls.length) (hA : ∀ l ∈ Ls, l.length = 258) (n : Int) (d : List UInt8) (hd : d.length = 258) (w : World) (hB : Blk w c 53 cs) (hP : Pgs w g Ls) :
    Calls Try.prog 50 #[.pointer (some ⟨c, 0, none⟩), .int .i64 p, .int .i64 n, .agg (cl d)] w fun e w' => e = .returned (.tuple #[]) ∧ Pgs w' g (Ls.set p (NM.wr n.toNat Ls[p] d)) ∧ w.grownBy w' (some g) := by
  have D0 := Lib.hid (PArr.new w hd)
  have B0 := Lib.hid (hB.alloc (.cells (cl d) 55))
  have P0 : Hid (Pgs (w.alloc (.cells (cl d) 55)) g Ls) := Lib.hid ⟨hP.1.alloc _, hP.2⟩
  have G0 : Hid (w.grownBy (w.alloc (.cells (cl d) 55)) (some g)) := Lib.hid (World.grownBy_alloc w _ _)
  have hgw := hP.1.lt
  have hcw := hB.lt
  clear hP hB
  go_enter Try.func50, Try.ntmps50
  go_wp2
  go_loopw [8] (fun i wr => ∃ k : Nat, k ≤ 258 ∧ (k : Int) ≤ max n 0 ∧ i = .int .i64 k ∧ PArr wr w.heap.size d ∧ Blk wr c 53 cs ∧ Pgs wr g (Ls.set p (NM.wr k Ls[p] d)) ∧ w.grownBy wr (some g)) (fun i _ => 258 - (intOf i).toNat)
  case atStart => exact ⟨0, by omega, by omega, rfl, D0.out, B0.out, by rw [NM.wr_zero, List.set_getElem_self]; exact P0.out, G0.out⟩
  case round =>
    obtain ⟨k, hk, hkn, rfl, hD, hB, hP, hG⟩ := hrel
    by_cases hlt : k < 258 ∧ (k : Int) < n
    · obtain ⟨hl1, hl2⟩ := hlt
      have d1 : decide ((k : Int) < 258) = true := by simp; omega
      have d2 : decide ((k : Int) < n) = true := by simp; omega
      have hLp : Ls[p].length = 258 := hA _ (List.getElem_mem hp)
      obtain ⟨x, hx⟩ : ∃ x, x = Ls[p][k] := ⟨_, rfl⟩
      obtain ⟨y, hy⟩ : ∃ y, y = d[k] := ⟨_, rfl⟩
      have e1 : wr.cell? ⟨c, 1, none⟩ = some (.slice (some ⟨g, 0, none⟩) N N) := (hB.cell 1).trans hcs
      have e2 : wr.cell? ⟨w.heap.size, k, none⟩ = some (.int .u8 ((y.toNat : Nat) : Int)) := (hD.cell k).trans (by rw [hy]; exact cl_get (by omega))
      have e3 : wr.cell? ⟨g, p * 258 + k, none⟩ = some (.int .u8 ((x.toNat : Nat) : Int)) := by
        rw [hP.1.cell, bv, List.getElem?_map, NM.flat_get (n := 258) _ hP.2 p (by simpa using hp) k hl1, List.getElem_set_self, NM.wr_get, List.getElem?_eq_getElem (by omega), hx]
        simp
      have e4 : wr.frozen? ⟨g, p * 258 + k, none⟩ = false := hP.1.free _
      have e5 := u8_and x y
      obtain ⟨z, hz⟩ : ∃ z, z = x &&& y := ⟨_, rfl⟩
      rw [← hz] at e5
      have HZ := Lib.hid hz
      have HD := Lib.hid hD
      have HB := Lib.hid hB
      have HP := Lib.hid hP
      have HG := Lib.hid hG
      have HX := Lib.hid hx
      have HY := Lib.hid hy
      clear hD hB hP hG D0 B0 P0 G0 hx hy hz
      go_wp2_with fail
      go_region
      clear e1 e2 e3 e4 e5
      have D1 : Hid (PArr (wr.setCell ⟨g, p * 258 + k, none⟩ (.int .u8 ((z.toNat : Nat) : Int))).drew w.heap.size d) := Lib.hid (HD.out.other _ _ (by show w.heap.size ≠ g; omega)).drew
      have B1 : Hid (Blk (wr.setCell ⟨g, p * 258 + k, none⟩ (.int .u8 ((z.toNat : Nat) : Int))).drew c 53 cs) := Lib.hid (HB.out.other _ _ hcg).drew
      have P1 : Hid (Pgs (wr.setCell ⟨g, p * 258 + k, none⟩ (.int .u8 ((z.toNat : Nat) : Int))).drew g (Ls.set p (NM.wr (k + 1) Ls[p] d))) := Lib.hid (by
        have hs := HP.out.1.set (p * 258 + k) (.int .u8 ((z.toNat : Nat) : Int))
        have hg := NM.flat_set (n := 258) _ HP.out.2 p (by simpa using hp) k z hl1
        rw [List.getElem_set_self, List.set_set] at hg
        have hw := NM.wr_step (k := k) (L := Ls[p]) (d := d) (by omega)
        rw [← HX.out, List.getD_eq_getElem?_getD, List.getElem?_eq_getElem (by omega), Option.getD_some, ← HY.out, ← HZ.out] at hw
        rw [hw] at hg
        refine ⟨?_, NM.set_all hA p (by rw [NM.wr_length, hLp])⟩
        rw [← hg]
        have hb : bv ((Ls.set p (NM.wr k Ls[p] d)).flatten.set (p * 258 + k) z) = (bv (Ls.set p (NM.wr k Ls[p] d)).flatten).set (p * 258 + k) (.int .u8 ((z.toNat : Nat) : Int)) := by simp [bv, List.map_set]
        rw [hb]
        exact hs)
      have G1 : Hid (w.grownBy (wr.setCell ⟨g, p * 258 + k, none⟩ (.int .u8 ((z.toNat : Nat) : Int))).drew (some g)) := Lib.hid (HG.out.trans ⟨rfl, rfl, rfl, by simp, fun j _ hj => Below.heap_setCell wr _ _ j (by simpa using hj)⟩)
      obtain ⟨w5, h5⟩ : ∃ w5, w5 = (wr.setCell ⟨g, p * 258 + k, none⟩ (.int .u8 ((z.toNat : Nat) : Int))).drew := ⟨_, rfl⟩
      rw [← h5] at D1 B1 P1 G1 ⊢
      clear h5 HD HB HP HG
      go_wp2
      go_roundw
      case rel => exact ⟨k + 1, by omega, by omega, by go_num, D1.out, B1.out, P1.out, G1.out⟩
      case measure => simp [intOf]; omega
    · have hend : NM.wr n.toNat Ls[p] d = NM.wr k Ls[p] d := by
        apply List.ext_getElem?
        intro i
        have hLp : Ls[p].length = 258 := hA _ (List.getElem_mem hp)
        rw [NM.wr_get, NM.wr_get]
        rcases Nat.lt_or_ge i 258 with h | h
        · rw [List.getElem?_eq_getElem (by omega)]
          have : (i < n.toNat) ↔ (i < k) := by omega
          simp [this]
        · rw [List.getElem?_eq_none (by omega)]; rfl
      have HEND := Lib.hid hend
      have HD := Lib.hid hD
      have HB := Lib.hid hB
      have HP := Lib.hid hP
      have HG := Lib.hid hG
      clear hD hB hP hG D0 B0 P0 G0 hend
      by_cases h1 : k < 258
      · have d1 : decide ((k : Int) < 258) = true := by simp; omega
        have d2 : decide ((k : Int) < n) = false := by simp; omega
        go_wp2
        go_end0
        exact ⟨rfl, by rw [HEND.out]; exact HP.out, HG.out⟩
      · have d1 : decide ((k : Int) < 258) = false := by simp; omega
        go_wp2
        go_end0
        exact ⟨rfl, by rw [HEND.out]; exact HP.out, HG.out⟩
end Go.Proofs.Ytjdegfblacbkoaa
