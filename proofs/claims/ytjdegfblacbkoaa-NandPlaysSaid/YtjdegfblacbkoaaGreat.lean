/- The contract of great; how a script's element is kept in a variable. No condition. -/
import Derived.Test.YtjdegfblacbkoaaOps
import Derived.Test.YtjdegfblacbkoaaPageArr
namespace Go.Proofs.Ytjdegfblacbkoaa
open Go.RowKit
def zOp : List Value := [.int .i64 0, .int .i64 0, .int .i64 0, .int .i64 0, .int .i64 0, .int .i64 0, .int .u8 0, .slice none 0 0]
theorem infoOp : (Try.prog.info? 39).map (fun i => (i.zero, i.size)) = some (some (.agg zOp.toArray), 8) := by kernel_rfl
theorem zeroOp (w : World) : (zeroValue 39).run Try.prog w = .ok (.agg zOp.toArray) w := by
  kernel_rfl
theorem OpV.one {w : World} {B : Nat} {o : OpV} (h : o.ok w B) : o.row.toArray.all (·.oneCell') = true := by
  obtain ⟨A, c, e, _⟩ := h.wh
  simp [OpV.row, e, Value.oneCell']
/-- an element is loaded whole, as the walk meets it -/
theorem wpl_oload {ops : Array Oper} {rest : List Oper} {o : Oper} {a : Act} {w : World} {q : Addr} {v : Value} {Q : Exit → Act → World → Prop} (x : Operand) (ho : o.op = .load 39 x) (hgd : Region.wanted o (yielded ops a.tmps) = true)
    (hx : a.eval x = .pointer (some q)) (hl : (loadVar 39 q).run Try.prog w = .ok v w) (h : wpList Try.prog ops Q rest (a.put o.dst v) w) : wpList Try.prog ops Q (o :: rest) a w := by
  refine BigFrame.wpList_want hgd fun K hK => ?_
  unfold Oper.wp execOp
  simp only [ho, hx, Instr.loadAt, Instr.sureAddr, Sem.run_bind, Sem.run_pure, Result.andThen_ok, hl]
  exact hK _ _ h
/-- an element is stored whole into a variable of its own -/
theorem wpl_ostore {ops : Array Oper} {rest : List Oper} {o : Oper} {a : Act} {w : World} {g : Nat} {Q : Exit → Act → World → Prop} (x y : Operand) (ho : o.op = .store 39 x y) (hgd : Region.wanted o (yielded ops a.tmps) = true)
    {cs : List Value} (hA : Blk w g 39 cs) (hcs : cs.length = 8) (hx : a.eval x = .pointer (some ⟨g, 0, none⟩)) {v : OpV} (h1 : v.row.toArray.all (·.oneCell') = true) (hy : a.eval y = .agg v.row.toArray)
    (h : ∀ w', Blk w' g 39 v.row → w.grownBy w' (some g) → w'.heap.size = w.heap.size → wpList Try.prog ops Q rest (a.put o.dst undef) w') : wpList Try.prog ops Q (o :: rest) a w := by
  have hs : (storeVar 39 ⟨g, 0, none⟩ (.agg v.row.toArray)).run Try.prog w = .ok () (w.setRow g v.row.toArray) :=
    run_storeVar_row w g _ _ cs.toArray v.row.toArray hA op_size (by rw [List.size_toArray, hcs]; rfl) h1
  refine BigFrame.wpList_want hgd fun K hK => ?_
  unfold Oper.wp execOp
  simp only [ho, hx, hy, Instr.storeAt, Instr.sureAddr, Sem.run_bind, Sem.run_pure, Result.andThen_ok, hs]
  refine hK _ _ (h _ (setRow_heap w g cs.toArray v.row.toArray _ _ hA) ⟨rfl, rfl, rfl, by simp, fun k _ hk => setRow_other w g k v.row.toArray (by simpa using hk)⟩ (by simp))
/-- a script's element in a later world -/
theorem Script.at_ {w : World} {B : Nat} {A : Option Addr} {c : Nat} {os : List OpV} (h : Script w B (.slice A os.length c) os) {i : Nat} (hi : i < os.length) {w' : World} (hb : Below B w w') :
    ∃ p, A = some p ∧ (os[i]).ok w B ∧ (loadVar 39 (p.add (i * 8))).run Try.prog w' = .ok (.agg (os[i]).row.toArray) w' := by
  obtain ⟨A', c', e, _, _, h1, h2⟩ := h
  obtain ⟨rfl, _, _⟩ := Value.slice.inj e
  obtain ⟨p, rfl, hp, hc⟩ := h1 i _ (List.getElem?_eq_getElem hi)
  refine ⟨p, rfl, h2 _ (List.getElem_mem hi), op_load _ _ _ fun j u hu => ?_⟩
  rw [Go.Deep.add_add, hb.cell (by rw [add_block]; exact hp)]
  exact hc j u hu
set_option maxRecDepth 100000 in
set_option maxHeartbeats 4000000 in
theorem great_any (A : Option Addr) (c : Nat) (os : List OpV) (w : World) (h : Script w w.heap.size (.slice A os.length c) os) :
    Calls Try.prog 6 #[.slice A os.length c] w fun e w' => ∃ g : Bool, e = .returned (.bool g) ∧ (g = false → os.length ≤ 120 ∧ ∀ o ∈ os, o.wl.length ≤ 20) ∧ Below w.heap.size w w' := by
  have z := zeroOp
  by_cases h1 : os.length ≤ 120
  · have d1 : decide ((120 : Int) < (os.length : Int)) = false := by simp; omega
    go_enter Try.func6, Try.ntmps6
    go_wp2_with fail
    clear d1
    go_loopw [10] (fun i wr => ∃ j : Nat, j ≤ os.length ∧ i = .int .i64 j ∧ Below w.heap.size w wr ∧ ∀ k o, k < j → os[k]? = some o → o.wl.length ≤ 20) (fun i _ => os.length - (intOf i).toNat)
    case atStart => exact ⟨0, by omega, rfl, Below.refl _ _, fun k o hk => by omega⟩
    case round =>
      obtain ⟨j, hj, rfl, hb, hs⟩ := hrel
      by_cases hlt : j < os.length
      · obtain ⟨p, rfl, hok, hld⟩ := h.at_ hlt hb
        have HB := Lib.hid hb
        have HS := Lib.hid hs
        have HO : Hid (os[j]? = some os[j]) := Lib.hid (List.getElem?_eq_getElem hlt)
        obtain ⟨o, ho⟩ : ∃ o, o = os[j] := ⟨_, rfl⟩
        rw [← ho] at hok hld HO
        have hone := OpV.one hok
        have HK := Lib.hid hok
        have HL := Lib.hid hld
        obtain ⟨A', c', ew, _⟩ := hok.wh
        have HW := Lib.hid ew
        clear hok ho hs hb h hld ew
        by_cases hw : o.wl.length ≤ 20
        · have d2 : decide ((20 : Int) < (o.wl.length : Int)) = false := by simp; omega
          go_wp2_with (first | (with_reducible refine wpl_oload (.tmp 12) rfl rfl rfl HL.out ?_) | ((with_reducible refine wpl_ostore (.tmp 4) (.tmp 13) rfl rfl (Blk.new wr _ zOp) rfl rfl hone rfl ?_); intro w4 R4 g4 e4; have c7 : w4.cell? ⟨wr.heap.size, 7, none⟩ = some (.slice A' o.wl.length c') := (R4.cell 7).trans (congrArg some HW.out)))
          have B4 : Below w.heap.size w w4 := (HB.out.alloc HB.out.size _).grown g4 (by simp; have := HB.out.size; omega) (fun k e => by cases e; exact HB.out.size)
          exact ⟨⟨j + 1, by omega, by go_num, B4, fun k u hk hu => by
            rcases Nat.lt_or_ge k j with h | h
            · exact HS.out k u h hu
            · obtain rfl : k = j := by omega
              rw [HO.out] at hu
              cases hu
              exact hw⟩, by simp [intOf]; omega⟩
        · have d2 : decide ((20 : Int) < (o.wl.length : Int)) = true := by simp; omega
          go_wp2_with (first | (with_reducible refine wpl_oload (.tmp 12) rfl rfl rfl HL.out ?_) | ((with_reducible refine wpl_ostore (.tmp 4) (.tmp 13) rfl rfl (Blk.new wr _ zOp) rfl rfl hone rfl ?_); intro w4 R4 g4 e4; have c7 : w4.cell? ⟨wr.heap.size, 7, none⟩ = some (.slice A' o.wl.length c') := (R4.cell 7).trans (congrArg some HW.out)))
          go_ret
          have B4 : Below w.heap.size w w4 := (HB.out.alloc HB.out.size _).grown g4 (by simp; have := HB.out.size; omega) (fun k e => by cases e; exact HB.out.size)
          exact ⟨true, rfl, ⟨fun h => Bool.noConfusion h, B4⟩⟩
      · obtain rfl : j = os.length := by omega
        go_wp2_with fail
        go_ret
        exact ⟨false, rfl, fun _ => ⟨h1, fun o ho => by obtain ⟨k, hk⟩ := List.getElem?_of_mem ho; exact hs k o (List.getElem?_eq_some_iff.1 hk).1 hk⟩, hb⟩
  · have d1 : decide ((120 : Int) < (os.length : Int)) = true := by simp; omega
    clear h
    go_enter Try.func6, Try.ntmps6
    go_wp2_with fail
    go_ret
    exact ⟨true, rfl, ⟨fun h => Bool.noConfusion h, Below.refl _ _⟩⟩
end Go.Proofs.Ytjdegfblacbkoaa
