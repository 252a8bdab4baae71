/- The document's cache: what lies in memory; New. No condition. -/
import Derived.Test.YtppodbijdhcclaaQCacheKeptM
import Derived.Test.YtppodbijdhcclaaQFill
import Derived.Deep.DeepCutAuto
import Derived.Deep.QuietTactic
import Derived.BigQuiet
namespace Go.Proofs.Ytppodbijdhcclaa
open Go Go.RowKit
/-- which keys were changed -/
def chgL (P : Int → Option CE) : List Bool := (List.range 256).map (fun (k : Nat) => (P (k : Int)).isSome)
theorem chgL_len (P : Int → Option CE) : (chgL P).length = 256 := by simp [chgL]
theorem chgL_get (P : Int → Option CE) {k : Nat} (hk : k < 256) : (chgL P).getD k false = (P (k : Int)).isSome := by
  unfold chgL
  rw [List.getD_eq_getElem?_getD, List.getElem?_map, List.getElem?_range hk]
  rfl
theorem chgL_none : chgL (fun _ => none) = told0 := list_eq_getD false (chgL_len _) List.length_replicate (fun k hk => by
  rw [chgL_get _ hk]
  unfold told0
  rw [List.getD_eq_getElem?_getD, List.getElem?_replicate, if_pos hk]
  rfl)
def rcCells (bo : List ByteArray) (tO : List Bool) (bn : List ByteArray) (tn ch : List Bool) (mo : Int) : List Value := stCells bo tO ++ (stCells bn tn ++ (ch.map Value.bool ++ [Value.int .i64 mo]))
theorem chg_len {ch : List Bool} (h : ch.length = 256) : (ch.map Value.bool).length = 256 := by rw [List.length_map, h]
theorem rcCells_len {bo : List ByteArray} {tO : List Bool} {bn : List ByteArray} {tn ch : List Bool} {mo : Int} (h1 : bo.length = 256) (h2 : tO.length = 256) (h3 : bn.length = 256) (h4 : tn.length = 256) (h5 : ch.length = 256) : (rcCells bo tO bn tn ch mo).length = 1281 := by
  unfold rcCells
  rw [List.length_append, List.length_append, List.length_append, stCells_length h1 h2, stCells_length h3 h4, chg_len h5]
  rfl
/-- the document's cache in block g -/
def Rc (w : World) (g : Nat) (bo : List ByteArray) (tO : List Bool) (bn : List ByteArray) (tn ch : List Bool) (mo : Int) : Prop :=
  Blk w g 91 (rcCells bo tO bn tn ch mo) ∧ (bo.length = 256 ∧ tO.length = 256) ∧ (bn.length = 256 ∧ tn.length = 256) ∧ ch.length = 256
section
variable {w w' : World} {g : Nat} {bo bn : List ByteArray} {tO tn ch : List Bool} {mo : Int}
theorem Rc.lt (h : Rc w g bo tO bn tn ch mo) : g < w.heap.size := h.1.lt
theorem Rc.after (h : Rc w g bo tO bn tn ch mo) (hb : Below w.heap.size w w') : Rc w' g bo tO bn tn ch mo := ⟨h.1.after hb, h.2⟩
theorem Rc.grown {row : Option Nat} (h : Rc w g bo tO bn tn ch mo) (hg : w.grownBy w' row) (hk : some g ≠ row) : Rc w' g bo tO bn tn ch mo := ⟨h.1.grown hg hk, h.2⟩
theorem Rc.old (h : Rc w g bo tO bn tn ch mo) : StAt w g 0 bo tO := ⟨_, _, h.1, by
  unfold rcCells
  rw [List.drop_zero, List.take_left' (stCells_length h.2.1.1 h.2.1.2)], h.2.1⟩
theorem Rc.now (h : Rc w g bo tO bn tn ch mo) : StAt w g 512 bn tn := ⟨_, _, h.1, by
  unfold rcCells
  rw [List.drop_left' (stCells_length h.2.1.1 h.2.1.2), List.take_left' (stCells_length h.2.2.1.1 h.2.2.1.2)], h.2.2.1⟩
theorem rc_tail {bo bn : List ByteArray} {tO tn ch : List Bool} {mo : Int} (h1 : (stCells bo tO).length = 512) (h2 : (stCells bn tn).length = 512) (k : Nat) : (rcCells bo tO bn tn ch mo)[1024 + k]? = (ch.map Value.bool ++ [Value.int .i64 mo])[k]? := by
  unfold rcCells
  rw [List.getElem?_append_right (by omega), h1, List.getElem?_append_right (by omega), h2, show 1024 + k - 512 - 512 = k by omega]
theorem Rc.flag (h : Rc w g bo tO bn tn ch mo) {k : Nat} (hk : k < 256) : w.cell? ⟨g, 1024 + k, none⟩ = some (.bool (ch.getD k false)) := by
  rw [h.1.cell, rc_tail (stCells_length h.2.1.1 h.2.1.2) (stCells_length h.2.2.1.1 h.2.2.1.2), List.getElem?_append_left (by rw [chg_len h.2.2.2]; exact hk), List.getElem?_map, List.getD_eq_getElem?_getD, List.getElem?_eq_getElem (by rw [h.2.2.2]; exact hk)]
  rfl
theorem Rc.most (h : Rc w g bo tO bn tn ch mo) : w.cell? ⟨g, 1280, none⟩ = some (.int .i64 mo) := by
  have h1 := rc_tail (mo := mo) (ch := ch) (stCells_length h.2.1.1 h.2.1.2) (stCells_length h.2.2.1.1 h.2.2.1.2) 256
  rw [List.getElem?_append_right (by rw [chg_len h.2.2.2]; exact Nat.le_refl _), chg_len h.2.2.2, Nat.sub_self, show 1024 + 256 = 1280 from rfl] at h1
  rw [h.1.cell, h1]
  rfl
theorem Rc.setFlag (h : Rc w g bo tO bn tn ch mo) {k : Nat} (hk : k < 256) (b : Bool) : Rc (w.setCell ⟨g, 1024 + k, none⟩ (.bool b)) g bo tO bn tn (ch.set k b) mo := by
  refine ⟨?_, h.2.1, h.2.2.1, by rw [List.length_set]; exact h.2.2.2⟩
  have h1 := h.1.set (1024 + k) (.bool b)
  have e : (rcCells bo tO bn tn ch mo).set (1024 + k) (.bool b) = rcCells bo tO bn tn (ch.set k b) mo := by
    unfold rcCells
    have l1 := stCells_length h.2.1.1 h.2.1.2
    have l2 := stCells_length h.2.2.1.1 h.2.2.1.2
    have l3 := chg_len h.2.2.2
    rw [List.set_append_right _ _ (by omega), l1, List.set_append_right _ _ (by omega), l2, show 1024 + k - 512 - 512 = k by omega, List.set_append_left _ _ (by omega), ← List.map_set]
  rw [e] at h1
  exact h1
end
def rcZ : List Value := rcCells (List.replicate 256 ByteArray.empty) (List.replicate 256 false) (List.replicate 256 ByteArray.empty) (List.replicate 256 false) told0 0
theorem rcZ_len : rcZ.length = 1281 := rcCells_len List.length_replicate List.length_replicate List.length_replicate List.length_replicate List.length_replicate
theorem zeroRc (w : World) : (zeroValue 91).run Try.prog w = .ok (.agg rcZ.toArray) w := by kernel_rfl
def rcPlaces : Array (Nat × Nat) := #[(0, 512), (512, 512), (1024, 256), (1280, 1)]
theorem rcFields : ∃ fields : Array Field, Try.prog.underlying 91 = some (.struct fields) ∧ ∀ w, (fields.mapM fun (f : Field) => do pure (f.offset, ← sizeOf f.type)).run Try.prog w = .ok rcPlaces w := ⟨_, Try.underlying91, fun w => by kernel_rfl⟩
theorem buildRc {bs : List ByteArray} {th : List Bool} (hb : bs.length = 256) (ht : th.length = 256) (mo : Int) (w : World) :
    (Instr.build 91 #[(0, .agg (stCells bs th).toArray), (1, .agg (stCells bs th).toArray), (3, .int .i64 mo)]).run Try.prog w = .ok (.agg (rcCells bs th bs th told0 mo).toArray) w := by
  obtain ⟨fields, h1, h2⟩ := rcFields
  have hs := stCells_length hb ht
  have hz := stCells_length (bs := List.replicate 256 ByteArray.empty) (th := List.replicate 256 false) List.length_replicate List.length_replicate
  have hl := chg_len (ch := told0) List.length_replicate
  have h3 : Instr.fill (rcPlaces[·]?) rcZ.toArray [(0, .agg (stCells bs th).toArray), (1, .agg (stCells bs th).toArray), (3, .int .i64 mo)] = some (rcCells bs th bs th told0 mo).toArray := by
    have hZ := rcZ_len
    rw [fill_cons (o := 0) (m := 512) (vs := stCells bs th) rfl rfl hs (by omega), List.take_zero, List.nil_append, Nat.zero_add]
    have e1 : rcZ.drop 512 = stCells (List.replicate 256 ByteArray.empty) (List.replicate 256 false) ++ (told0.map Value.bool ++ [Value.int .i64 0]) := by
      unfold rcZ rcCells
      rw [List.drop_left' hz]
    rw [e1, fill_cons (o := 512) (m := 512) (vs := stCells bs th) rfl rfl hs (by rw [List.length_append, List.length_append, hs, hz]; omega), seg_app hs, List.drop_left' hz]
    rw [← List.append_assoc (stCells bs th ++ stCells bs th), fill_cons (o := 1280) (m := 1) (vs := [Value.int .i64 mo]) rfl rfl rfl (by simp only [List.length_append, hs, hl, List.length_cons, List.length_nil]; omega), seg_app (by simp only [List.length_append, hs, hl])]
    rw [Instr.fill]
    unfold rcCells
    simp
  unfold Instr.build
  simp only [Sem.run_bind, zeroRc, Result.andThen_ok, run_underlying h1, h2]
  rw [show (Value.agg rcZ.toArray).cells = rcZ.toArray from rfl, h3]
  rfl
/-- the document's cache, by what was changed -/
def RcP (w : World) (g : Nat) (bs : List ByteArray) (th : List Bool) (P : Int → Option CE) (mo : Int) : Prop := Rc w g bs th (overB bs P) (overT th P) (chgL P) mo
set_option maxRecDepth 100000 in
set_option maxHeartbeats 16000000 in
theorem refNew_any (s : Nat) (bs : List ByteArray) (th : List Bool) (mo : Int) (w : World) (hs : Src w s bs th mo) :
    Calls Try.prog 16 #[.pointer (some ⟨s, 0, none⟩)] w fun e w' => ∃ r, w.heap.size ≤ r ∧ e = .returned (.pointer (some ⟨r, 0, none⟩)) ∧ RcP w' r bs th (fun _ => none) mo ∧ Below w.heap.size w w' := by
  have hb := (Src.st.1 hs).1
  have BL := Lib.hid hs.2
  have HL := Lib.hid (stCells_length hs.2.1 hs.2.2)
  have L2 := Lib.hid (show ((stCells bs th ++ [Value.int .i64 mo]).drop 0).take 512 = stCells bs th by rw [List.drop_zero, List.take_left' HL.out])
  have SS : Blk w.drew s 32 (stCells bs th ++ [.int .i64 mo]) := hb
  have L3 := Lib.hid (show (stCells bs th ++ [Value.int .i64 mo])[512]? = some (.int .i64 mo) by rw [List.getElem?_append_right (Nat.le_of_eq HL.out), HL.out]; rfl)
  have KB := Lib.hid (fun w => buildRc BL.out.1 BL.out.2 mo w)
  have HX := Lib.hid (Blk.new w.drew 91 (rcCells bs th bs th told0 mo))
  clear hs hb
  go_enter Try.func16, Try.ntmps16
  go_wp2_with fail
  refine wp_region_held_drew (S := (fun w2 => Blk w2 s 32 (stCells bs th ++ [.int .i64 mo]))) (by kernel_rfl) SS (fun _ => ?_)
  refine wpAnyH_take (i := 0) (v := .pointer (some ⟨s, 0, none⟩)) rfl (by kernel_rfl) (by kernel_rfl) (by kernel_rfl) (fun _ _ _ h => h) (Or.inl ⟨by kernel_rfl, fun w _ => by go_simp⟩) SS ?_
  simp only [Act.put, List.getElem_toArray, List.getElem_cons_zero, List.setIfInBounds_toArray, List.set_cons_zero, List.set_cons_succ]
  refine wpAnyH_take (i := 1) (v := .pointer (some ⟨s, 0, none⟩)) rfl (by kernel_rfl) (by kernel_rfl) (by kernel_rfl) (fun _ _ _ h => h) (Or.inl ⟨by kernel_rfl, fun w _ => by go_simp⟩) SS ?_
  simp only [Act.put, List.getElem_toArray, List.getElem_cons_zero, List.getElem_cons_succ, List.setIfInBounds_toArray, List.set_cons_zero, List.set_cons_succ]
  refine wpAnyH_take (i := 2) (v := .pointer (some ⟨s, 0, none⟩)) rfl (by kernel_rfl) (by kernel_rfl) (by kernel_rfl) (fun _ _ _ h => h) (Or.inl ⟨by kernel_rfl, fun w _ => by go_simp⟩) SS ?_
  simp only [Act.put, List.getElem_toArray, List.getElem_cons_zero, List.getElem_cons_succ, List.setIfInBounds_toArray, List.set_cons_zero, List.set_cons_succ]
  refine wpAnyH_take (i := 3) (v := .agg (stCells bs th).toArray) rfl (by kernel_rfl) (by kernel_rfl) (by kernel_rfl) (fun _ _ _ h => h) (yields_seg aggSt sizeSt (.tmp 5) (by kernel_rfl) (by kernel_rfl) (by kernel_rfl) (g := s) (i := 0) (fun _ h => h) L2.out HL.out) SS ?_
  simp only [Act.put, List.getElem_toArray, List.getElem_cons_zero, List.getElem_cons_succ, List.setIfInBounds_toArray, List.set_cons_zero, List.set_cons_succ]
  refine wpAnyH_take (i := 4) (v := .pointer (some ⟨s, 0, none⟩)) rfl (by kernel_rfl) (by kernel_rfl) (by kernel_rfl) (fun _ _ _ h => h) (Or.inl ⟨by kernel_rfl, fun w _ => by go_simp⟩) SS ?_
  simp only [Act.put, List.getElem_toArray, List.getElem_cons_zero, List.getElem_cons_succ, List.setIfInBounds_toArray, List.set_cons_zero, List.set_cons_succ]
  refine wpAnyH_take (i := 5) (v := .pointer (some ⟨s, 0, none⟩)) rfl (by kernel_rfl) (by kernel_rfl) (by kernel_rfl) (fun _ _ _ h => h) (Or.inl ⟨by kernel_rfl, fun w _ => by go_simp⟩) SS ?_
  simp only [Act.put, List.getElem_toArray, List.getElem_cons_zero, List.getElem_cons_succ, List.setIfInBounds_toArray, List.set_cons_zero, List.set_cons_succ]
  refine wpAnyH_take (i := 6) (v := .pointer (some ⟨s, 0, none⟩)) rfl (by kernel_rfl) (by kernel_rfl) (by kernel_rfl) (fun _ _ _ h => h) (Or.inl ⟨by kernel_rfl, fun w _ => by go_simp⟩) SS ?_
  simp only [Act.put, List.getElem_toArray, List.getElem_cons_zero, List.getElem_cons_succ, List.setIfInBounds_toArray, List.set_cons_zero, List.set_cons_succ]
  refine wpAnyH_take (i := 7) (v := .agg (stCells bs th).toArray) rfl (by kernel_rfl) (by kernel_rfl) (by kernel_rfl) (fun _ _ _ h => h) (yields_seg aggSt sizeSt (.tmp 9) (by kernel_rfl) (by kernel_rfl) (by kernel_rfl) (g := s) (i := 0) (fun _ h => h) L2.out HL.out) SS ?_
  simp only [Act.put, List.getElem_toArray, List.getElem_cons_zero, List.getElem_cons_succ, List.setIfInBounds_toArray, List.set_cons_zero, List.set_cons_succ]
  refine wpAnyH_take (i := 8) (v := .pointer (some ⟨s, 0, none⟩)) rfl (by kernel_rfl) (by kernel_rfl) (by kernel_rfl) (fun _ _ _ h => h) (Or.inl ⟨by kernel_rfl, fun w _ => by go_simp⟩) SS ?_
  simp only [Act.put, List.getElem_toArray, List.getElem_cons_zero, List.getElem_cons_succ, List.setIfInBounds_toArray, List.set_cons_zero, List.set_cons_succ]
  refine wpAnyH_take (i := 9) (v := .pointer (some ⟨s, 0, none⟩)) rfl (by kernel_rfl) (by kernel_rfl) (by kernel_rfl) (fun _ _ _ h => h) (Or.inl ⟨by kernel_rfl, fun w _ => by go_simp⟩) SS ?_
  simp only [Act.put, List.getElem_toArray, List.getElem_cons_zero, List.getElem_cons_succ, List.setIfInBounds_toArray, List.set_cons_zero, List.set_cons_succ]
  refine wpAnyH_take (i := 10) (v := .pointer (some ⟨s, 512, none⟩)) rfl (by kernel_rfl) (by kernel_rfl) (by kernel_rfl) (fun _ _ _ h => h) (Or.inl ⟨by kernel_rfl, fun w _ => by go_simp⟩) SS ?_
  simp only [Act.put, List.getElem_toArray, List.getElem_cons_zero, List.getElem_cons_succ, List.setIfInBounds_toArray, List.set_cons_zero, List.set_cons_succ]
  refine wpAnyH_take (i := 11) (v := .int .i64 mo) rfl (by kernel_rfl) (by kernel_rfl) (by kernel_rfl) (fun _ _ _ h => h) (yields_one (ty := 3) (fun w => by kernel_rfl) (.tmp 13) (by kernel_rfl) (by kernel_rfl) (by kernel_rfl) (fun w2 h => (h.cell 512).trans L3.out)) SS ?_
  simp only [Act.put, List.getElem_toArray, List.getElem_cons_zero, List.getElem_cons_succ, List.setIfInBounds_toArray, List.set_cons_zero, List.set_cons_succ]
  refine wpAnyH_take (i := 12) (v := .agg (rcCells bs th bs th told0 mo).toArray) rfl (by kernel_rfl) (by kernel_rfl) (by kernel_rfl) (fun _ _ _ h => h) (yields_build [(0, .tmp 6), (1, .tmp 10), (3, .tmp 14)] [(0, .agg (stCells bs th).toArray), (1, .agg (stCells bs th).toArray), (3, .int .i64 mo)] (by kernel_rfl) (by kernel_rfl) (by kernel_rfl) KB.out) SS ?_
  simp only [Act.put, List.getElem_toArray, List.getElem_cons_zero, List.getElem_cons_succ, List.setIfInBounds_toArray, List.set_cons_zero, List.set_cons_succ]
  refine wpAnyH_ready (rs := [13]) (by kernel_rfl) (by simp) (AllReadyH.cons rfl (fun K hK => ?_) AllReadyH.nil)
  go_simp
  refine hK _ _ (SS.alloc _) (fun _ => ?_)
  clear hK K
  refine wpAnyH_take (i := 14) (v := .pointer (some ⟨w.heap.size, 0, none⟩)) rfl (by kernel_rfl) (by kernel_rfl) (by kernel_rfl) (fun _ _ _ h => h) (Or.inl ⟨by kernel_rfl, fun w _ => by go_simp⟩) (SS.alloc _) ?_
  simp only [Act.put, List.getElem_toArray, List.getElem_cons_zero, List.getElem_cons_succ, List.setIfInBounds_toArray, List.set_cons_zero, List.set_cons_succ]
  refine wpAnyH_done (by kernel_rfl) ?_ _
  go_simp
  go_wp2_with fail
  go_ret
  exact ⟨_, Nat.le_refl _, rfl, ⟨by
    show Blk _ _ _ (rcCells bs th (overB bs (fun _ => none)) (overT th (fun _ => none)) (chgL (fun _ => none)) mo)
    rw [overB_none BL.out.1, overT_none BL.out.2, chgL_none]
    exact HX.out, BL.out, ⟨overB_len _ _, overT_len _ _⟩, chgL_len _⟩, (Below.refl _ _).drew.alloc (Nat.le_refl _) _⟩
end Go.Proofs.Ytppodbijdhcclaa

