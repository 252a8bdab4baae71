/- What Split, Join and Within of name answer. No condition but that internal/bytealg's MaxLen is some int, and that texts aren't too long. -/
import Derived.Test.YteihffmenfobaaaDoorQNameStr
import Derived.Test.YteihffmenfobaaaDoorQShelfName
namespace Go.Proofs.YteihffmenfobaaaDoor
open Go.RowKit Go.Shelf
/-- the address is plain -/
def Flat (v : Value) : Prop := ∀ a n c, v = .slice (some a) n c → ∃ g o, a = ⟨g, o, none⟩
theorem Flat.at0 (g o n c : Nat) : Flat (.slice (some ⟨g, o, none⟩) n c) := fun a n c e => by cases e; exact ⟨g, o, rfl⟩
theorem Flat.none_ (n c : Nat) : Flat (.slice none n c) := fun a n c e => by cases e
/-- the variable that strings.Index reads is some int -/
def MaxI (w : World) : Prop := ∃ m, w.cell? ⟨0, 0, none⟩ = some (.int .i64 m)
theorem MaxI.lt {w : World} (h : MaxI w) : 0 < w.heap.size := by
  obtain ⟨m, hm⟩ := h
  exact World.block_lt_of_cell? w _ hm
theorem MaxI.below {w w' : World} (h : MaxI w) (hb : Below w.heap.size w w') : MaxI w' := by
  have hl := h.lt
  obtain ⟨m, hm⟩ := h
  exact ⟨m, (hb.cell (p := ⟨0, 0, none⟩) hl).trans hm⟩
theorem strs_pieces (w : World) (P : List ByteArray) (N : Nat) (h : P.length ≤ N) (hN : N ≤ maxLen) :
    Strs (w.alloc (.cells (Lib.cellsOf P N) 9)) (w.alloc (.cells (Lib.cellsOf P N) 9)).heap.size (.slice (some ⟨w.heap.size, 0, none⟩) P.length N) P := by
  refine ⟨_, _, rfl, h, hN, fun j u hu => ?_⟩
  have hr := Row.new w (Lib.cellsOf P N) 9 (0, 0) w.heap.size rfl (B := (w.alloc (.cells (Lib.cellsOf P N) 9)).heap.size) (by simp)
  refine hr j u ?_
  have hj := get_lt hu
  unfold Lib.cellsOf
  simp only [List.getElem?_append_left hj]
  exact hu
theorem head_prefix (l : List UInt8) : Lib.hasPrefix l [47] = decide (l.head? = some 47) := by
  unfold Lib.hasPrefix
  cases l with
  | nil => rfl
  | cons b l =>
    simp only [List.isPrefixOf, List.head?_cons, Option.some.injEq, Bool.and_true]
    rw [Bool.eq_iff_iff]
    simp
    exact eq_comm
theorem trim_head (l : List UInt8) : Lib.trimPrefix (47 :: l) [47] = l := by simp [Lib.trimPrefix, Lib.hasPrefix]
/-- what Split answers -/
def SplitOut (w : World) (l : List UInt8) (e : Ending) (w' : World) : Prop :=
  (∃ v xs, e = .returned (.tuple #[v, .int .i64 0]) ∧ splitL l = some (dl xs) ∧ Strs w' w'.heap.size v xs ∧ Flat v ∧ Below w.heap.size w w') ∨
  (e = .returned (.tuple #[.slice none 0 0, .int .i64 60]) ∧ splitL l = none ∧ Below w.heap.size w w')
set_option maxHeartbeats 4000000 in
set_option maxRecDepth 100000 in
theorem split_any (s : ByteArray) (w : World) (hm : MaxI w) (hs : s.size ≤ 1000000) :
    Calls Tryd.prog 8 #[.string s] w fun e w' => SplitOut w s.data.toList e w' := by
  by_cases h1 : s.toList = [47]
  · go_enter Tryd.func8, Tryd.ntmps8
    go_wp2
    go_ret2
    refine .inl ⟨_, [], rfl, ?_, Strs.nil 0 (by simp [maxLen]), Flat.none_ _ _, Below.refl _ _⟩
    rw [← Lib.toList_data, h1]
    rfl
  · have g1 : (s.toList == [47]) = false := by simpa using h1
    have HS := Lib.hid hs
    have HM := Lib.hid hm
    have hne : s.data.toList ≠ [47] := by rw [← Lib.toList_data]; exact h1
    have HN := Lib.hid hne
    clear h1 hs hm hne
    have K1 := Lib.hid (Any.strings_CutPrefix Tryd.lays103 s ⟨#[47]⟩)
    by_cases hp : s.data.toList.head? = some 47
    · obtain ⟨t, ht⟩ : ∃ t, s.data.toList = 47 :: t := by
        cases hl : s.data.toList with
        | nil => rw [hl] at hp; cases hp
        | cons b t =>
          rw [hl] at hp
          simp at hp
          exact ⟨t, by rw [hp]⟩
      have ht0 : t ≠ [] := fun e => HN.out (by rw [ht, e])
      have hts : t.length ≤ 1000000 := by
        have h := HS.out
        rw [Lib.size_eq, ht, List.length_cons] at h
        omega
      have K1' : Hid (∀ w, Calls Tryd.prog 15 #[.string s, .string ⟨#[47]⟩] w fun e w' => e = .returned (.tuple #[.string ⟨t.toArray⟩, .bool true]) ∧ w' = w) := Lib.hid fun w => by
        have k := K1.out w
        rw [ht, trim_head, head_prefix] at k
        exact k
      obtain ⟨m, hm⟩ := HM.out
      have htz : (⟨t.toArray⟩ : ByteArray).size = t.length := by rw [Lib.size_eq]
      have K2 := Lib.hid (Any.strings_SplitN Tryd.lays147 (by kernel_rfl) ⟨t.toArray⟩ ⟨#[47]⟩ 7 m w (by rw [htz]; omega) hm (by decide) (by omega) (by omega))
      obtain ⟨N, hN⟩ : ∃ N, N = min 7 ((⟨t.toArray⟩ : ByteArray).size + 1) := ⟨_, rfl⟩
      obtain ⟨P, hP⟩ : ∃ P, P = Lib.splitB ⟨#[47]⟩ 0 (min 7 ((⟨t.toArray⟩ : ByteArray).size + 1) - 1) ⟨t.toArray⟩ := ⟨_, rfl⟩
      have hPd : dl P = Lib.splitK [47] 0 (min 7 (t.length + 1) - 1) t := by
        rw [hP, htz]
        exact Lib.splitB_data _ _ _ _
      have hPl : P.length ≤ N := by
        rw [hP]
        have := Lib.splitB_length_le ⟨#[47]⟩ 0 (min 7 ((⟨t.toArray⟩ : ByteArray).size + 1) - 1) ⟨t.toArray⟩
        omega
      have hN7 : N ≤ 7 := by omega
      rw [← hP, ← hN] at K2
      have HP := Lib.hid hPd
      have HT := Lib.hid ht
      have HSt := Lib.hid (strs_pieces w P N hPl (by simp only [maxLen]; omega))
      have HB := Lib.hid ((Below.refl w.heap.size w).alloc (Nat.le_refl _) (.cells (Lib.cellsOf P N) 9))
      have HF := Lib.hid (fit_split t)
      have HL := Lib.hid (splitL_slash t ht0)
      obtain ⟨W, hW⟩ : ∃ W, W = w.alloc (.cells (Lib.cellsOf P N) 9) := ⟨_, rfl⟩
      have K2' : Hid (Calls Tryd.prog 16 #[.string ⟨t.toArray⟩, .string ⟨#[47]⟩, .int .i64 7] w fun e w' => e = .returned (.slice (some ⟨w.heap.size, 0, none⟩) P.length N) ∧ w' = W) := Lib.hid (by rw [hW]; exact K2.out)
      rw [← hW] at HSt HB
      obtain ⟨g, hg⟩ : ∃ g, w.heap.size = g := ⟨_, rfl⟩
      rw [hg] at K2' HSt
      clear hm htz hP hPd hPl hN hW K2 K1 ht hts hp hg
      go_enter Tryd.func8, Tryd.ntmps8
      go_wp2_with (first
        | (go_at_call 15; refine (K1'.out _).mono ?_; rintro e w' ⟨rfl, rfl⟩)
        | (go_at_call 16; refine (K2'.out).mono ?_; rintro e w2 ⟨rfl, rfl⟩)
        | (go_at_call 17; refine (fit_any _ P _ HSt.out).mono ?_; rintro e w3 ⟨rfl, h3⟩))
      · have h0 : fitL (dl P) = false := by simpa using (by assumption : (!fitL (dl P)) = true)
        go_ret2
        refine .inr ⟨rfl, ?_, HB.out.trans (h3.mono HB.out.size)⟩
        rw [HT.out, HL.out]
        rcases HF.out with ⟨f1, _⟩ | ⟨_, f2⟩
        · rw [← HP.out, h0] at f1
          cases f1
        · rw [if_neg (by rw [f2]; simp)]
      · have h0 : fitL (dl P) = true := by
          have h := (by assumption : (!fitL (dl P)) = false)
          simpa using h
        go_ret2
        refine .inl ⟨_, P, rfl, ?_, HSt.out.after h3, Flat.at0 _ _ _ _, HB.out.trans (h3.mono HB.out.size)⟩
        rw [HT.out, HL.out]
        rcases HF.out with ⟨_, f2, f3⟩ | ⟨f1, _⟩
        · rw [if_pos f2, HP.out, f3]
        · rw [← HP.out, h0] at f1
          cases f1
    · have K1' : Hid (∀ w, ∃ q, Calls Tryd.prog 15 #[.string s, .string ⟨#[47]⟩] w fun e w' => e = .returned (.tuple #[.string q, .bool false]) ∧ w' = w) := Lib.hid fun w => by
        have k := K1.out w
        rw [head_prefix, decide_eq_false hp] at k
        exact ⟨_, k⟩
      obtain ⟨q, k1⟩ := K1'.out w
      have K2 := Lib.hid k1
      clear k1 K1 K1'
      go_enter Tryd.func8, Tryd.ntmps8
      go_wp2_with (go_at_call 15; refine K2.out.mono ?_; rintro e w' ⟨rfl, rfl⟩)
      go_ret2
      exact .inr ⟨rfl, splitL_other hp, Below.refl _ _⟩
/-- what Join answers -/
def JoinOut (w : World) (ns : List (List UInt8)) (e : Ending) (w' : World) : Prop :=
  (∃ p : ByteArray, e = .returned (.tuple #[.string p, .int .i64 0]) ∧ joinL ns = some p.data.toList ∧ Below w.heap.size w w') ∨
  (e = .returned (.tuple #[.string ⟨#[]⟩, .int .i64 60]) ∧ joinL ns = none ∧ Below w.heap.size w w')
theorem Row.flat {w : World} {B : Nat} {A : Option Addr} {n c : Nat} {xs : List ByteArray} (h : Row w B A (xs.map Value.string)) (hf : Flat (.slice A n c)) (hx : xs ≠ []) :
    ∃ g o, A = some ⟨g, o, none⟩ ∧ g < B ∧ ∀ (j : Nat) x, xs[j]? = some x → w.cell? ⟨g, o + j, none⟩ = some (.string x) := by
  obtain ⟨a, rfl, hb, _⟩ := h.at_ (k := 0) (by cases xs with | nil => exact absurd rfl hx | cons x xs => simp)
  obtain ⟨g, o, rfl⟩ := hf a n c rfl
  refine ⟨g, o, rfl, hb, fun j x hj => ?_⟩
  obtain ⟨a, ea, _, hc⟩ := h j (.string x) (by simp [hj])
  cases ea
  have : (⟨g, o, none⟩ : Addr).add j = ⟨g, o + j, none⟩ := by unfold Addr.add; split <;> simp_all
  rw [← this]
  exact hc
theorem dl_eq_nil {xs : List ByteArray} : dl xs = [] ↔ xs = [] := by simp [dl]
set_option maxHeartbeats 4000000 in
set_option maxRecDepth 100000 in
theorem njoin_any (v : Value) (xs : List ByteArray) (w : World) (hv : Strs w w.heap.size v xs) (hf : Flat v) :
    Calls Tryd.prog 12 #[v] w fun e w' => JoinOut w (dl xs) e w' := by
  have KF := Lib.hid (fit_any v xs w hv)
  obtain ⟨F, hF⟩ : ∃ F, fitL (dl xs) = F := ⟨_, rfl⟩
  rw [hF] at KF
  have HF := Lib.hid hF
  have HV := Lib.hid hv
  have HFl := Lib.hid hf
  clear hF hv hf
  cases F with
  | false =>
    go_enter Tryd.func12, Tryd.ntmps12
    go_wp2_with (go_at_call 17; refine KF.out.mono ?_; rintro e w' ⟨rfl, hb⟩)
    go_ret2
    exact .inr ⟨rfl, by rw [joinL_fit, HF.out]; rfl, hb⟩
  | true =>
    have hj : joinL (dl xs) = some (if dl xs = [] then [47] else glue (dl xs)) := by rw [joinL_fit, HF.out]; rfl
    have hlen := joinL_length hj
    have hKJ : ∀ w', Below w.heap.size w w' → Calls Tryd.prog 19 #[v, .string ⟨#[47]⟩] w' fun e w2 => (∃ q : ByteArray, e = .returned (.string q) ∧ 47 :: q.data.toList = (if dl xs = [] then [47] else glue (dl xs))) ∧ Below w'.heap.size w' w2 := fun w' hb => by
      have hv' := HV.out.after hb
      obtain ⟨A, c, rfl, hc, hm, hr⟩ := hv'
      by_cases hx : xs = []
      · subst hx
        refine (Any.strings_Join_none Tryd.lays156 Tryd.Builder_Extra_156 A c ⟨#[47]⟩ w').mono ?_
        rintro e w2 ⟨rfl, rfl⟩
        exact ⟨⟨_, rfl, rfl⟩, Below.refl _ _⟩
      · obtain ⟨g, o, rfl, hg, hcells⟩ := Row.flat hr HFl.out hx
        have hdn : dl xs ≠ [] := fun e => hx (dl_eq_nil.1 e)
        rw [if_neg hdn] at hlen ⊢
        have hgl := lib_join_glue (dl xs) hdn
        refine (Any.strings_Join Tryd.lays156 Tryd.Builder_Extra_156 g o c xs ⟨#[47]⟩ w' hcells hg (by simp only [maxLen] at hm; have := HF.out; unfold fitL at this; simp only [Bool.and_eq_true, decide_eq_true_eq, dl_length] at this; omega) hc ?_).mono ?_
        · show (Lib.join (dl xs) [47]).length ≤ _
          have : (47 :: Lib.join (dl xs) [47]).length ≤ 79 := by rw [hgl]; exact hlen
          simp only [List.length_cons] at this
          omega
        · rintro e w2 ⟨rfl, hb2⟩
          exact ⟨⟨_, rfl, hgl⟩, hb2⟩
    have KJ := Lib.hid hKJ
    have HJ := Lib.hid hj
    clear hKJ hj hlen
    have hl79 := Lib.hid (joinL_length HJ.out)
    obtain ⟨G, hG⟩ : ∃ G, (if dl xs = [] then [47] else glue (dl xs)) = G := ⟨_, rfl⟩
    rw [hG] at KJ HJ hl79
    clear hG
    go_enter Tryd.func12, Tryd.ntmps12
    go_wp2_with (first
      | (go_at_call 17; refine KF.out.mono ?_; rintro e w1 ⟨rfl, hb⟩)
      | (go_at_call 19; refine (KJ.out _ hb).mono ?_; rintro e w2 ⟨⟨q, rfl, hq⟩, hb2⟩; have hqs : ¬ 9223372036854775807 < 1 + q.size := (by have h := hl79.out; rw [← hq, List.length_cons, ← Lib.size_eq] at h; omega)))
    go_ret2
    refine .inl ⟨_, rfl, ?_, hb.trans (hb2.mono hb.size)⟩
    rw [HJ.out, ← hq]
    simp
/-- what Within answers -/
theorem equal_any (v u : Value) (xs ys : List ByteArray) (w : World) (hv : Strs w w.heap.size v xs) (hu : Strs w w.heap.size u ys) (fv : Flat v) (fu : Flat u) :
    Calls Tryd.prog 20 #[v, u] w fun e w' => e = .returned (.bool (decide (xs = ys))) ∧ Below w.heap.size w w' := by
  obtain ⟨A, c, rfl, hc, hm, hr⟩ := hv
  obtain ⟨A', c', rfl, hc', hm', hr'⟩ := hu
  unfold maxLen at hm hm'
  by_cases hl : xs.length = ys.length
  · by_cases hx : xs = []
    · subst hx
      obtain rfl : ys = [] := List.eq_nil_of_length_eq_zero (by simpa using hl.symm)
      refine (Any.slices_Equal_string_empty Tryd.lays193 A A' c 0 c' w (by omega)).mono ?_
      rintro e w2 ⟨rfl, rfl⟩
      exact ⟨rfl, Below.refl _ _⟩
    · obtain ⟨g, o, rfl, hg, hcells⟩ := Row.flat hr fv hx
      obtain ⟨g', o', rfl, hg', hcells'⟩ := Row.flat hr' fu (fun e => hx (List.eq_nil_of_length_eq_zero (by rw [hl, e]; rfl)))
      have cells : ∀ {zs : List ByteArray} {b off : Nat}, (∀ (j : Nat) x, zs[j]? = some x → w.cell? ⟨b, off + j, none⟩ = some (.string x)) → ∀ j, j < zs.length → w.cell? ⟨b, off + j, none⟩ = some (.string (zs.getD j ByteArray.empty)) := fun h j hj => by
        have := h j _ (List.getElem?_eq_getElem hj)
        rw [this]
        simp [List.getD, List.getElem?_eq_getElem hj]
      refine (Any.slices_Equal_string Tryd.lays193 g o xs.length c g' o' ys.length c' xs ys w (Nat.le_refl _) (Nat.le_refl _) (by omega) (by omega) (cells hcells) (cells hcells')).mono ?_
      rintro e w2 ⟨rfl, q, rfl⟩
      rw [List.take_length, List.take_length]
      exact ⟨rfl, nm_drewN (Below.refl _ _) _⟩
  · refine (Any.slices_Equal_string_lens Tryd.lays193 A A' xs.length c ys.length c' w hl).mono ?_
    rintro e w2 ⟨rfl, rfl⟩
    rw [decide_eq_false (fun e => hl (by rw [e]))]
    exact ⟨rfl, Below.refl _ _⟩
theorem dl_inj {xs ys : List ByteArray} : dl xs = dl ys ↔ xs = ys := by
  constructor
  · intro h
    induction xs generalizing ys with
    | nil => cases ys with | nil => rfl | cons y ys => cases h
    | cons x xs ih =>
      cases ys with
      | nil => cases h
      | cons y ys =>
        simp only [dl, List.map_cons, List.cons.injEq] at h
        have e : x = y := by
          cases x; cases y
          congr 1
          exact Array.toList_inj.1 h.1
        rw [e, ih h.2]
  · intro h
    rw [h]
theorem prefix_take (a b : List (List UInt8)) (h : b.length ≤ a.length) : b.isPrefixOf a = decide (a.take b.length = b) := by
  rw [Bool.eq_iff_iff, List.isPrefixOf_iff_prefix, decide_eq_true_iff]
  constructor
  · rintro ⟨t, rfl⟩
    simp
  · intro e
    exact ⟨a.drop b.length, by have h2 := List.take_append_drop b.length a; rw [e] at h2; exact h2⟩
set_option maxHeartbeats 4000000 in
set_option maxRecDepth 100000 in
theorem within_any (p t : ByteArray) (w : World) (hm : MaxI w) (hp : p.size ≤ 1000000) (ht : t.size ≤ 1000000) :
    Calls Tryd.prog 14 #[.string p, .string t] w fun e w' => e = .returned (.bool (withinL p.data.toList t.data.toList)) ∧ Below w.heap.size w w' := by
  have K1 := Lib.hid (split_any p w hm hp)
  have HM := Lib.hid hm
  have HT := Lib.hid ht
  obtain ⟨R, hR⟩ : ∃ R, withinL p.data.toList t.data.toList = R := ⟨_, rfl⟩
  rw [hR]
  have HR := Lib.hid hR
  clear hR hm hp ht
  go_enter Tryd.func14, Tryd.ntmps14
  go_wp2_with fail
  refine K1.out.mono ?_
  rintro e w1 (⟨v, xs, rfl, ha, hx, fx, hb⟩ | ⟨rfl, ha, hb⟩)
  · have HA := Lib.hid ha
    have HX := Lib.hid hx
    have HB := Lib.hid hb
    have HFX := Lib.hid fx
    have K2 := Lib.hid (split_any t w1 (HM.out.below hb) HT.out)
    clear ha hx fx hb K1
    go_wp2_with fail
    refine K2.out.mono ?_
    rintro e w2 (⟨u, ys, rfl, ha2, hy, fy, hb2⟩ | ⟨rfl, ha2, hb2⟩)
    · have HA2 := Lib.hid ha2
      have HY := Lib.hid hy
      have HB2 := Lib.hid (HB.out.trans (hb2.mono HB.out.size))
      have HX2 := Lib.hid (HX.out.after hb2)
      have HFY := Lib.hid fy
      clear ha2 hy fy hb2 K2
      obtain ⟨A, c, rfl, hc, hm, hr⟩ := id HX2.out
      obtain ⟨A2, c2, rfl, hc2, hm2, hr2⟩ := id HY.out
      have HRr := Lib.hid hr
      clear hr hr2
      have hR : R = (dl ys).isPrefixOf (dl xs) := by
        rw [← HR.out]
        unfold withinL
        rw [HA.out, HA2.out]
      by_cases hl : xs.length < ys.length
      · have i1 : (xs.length : Int) < (ys.length : Int) := by omega
        obtain rfl : R = false := by
          rw [hR]
          rcases hx : (dl ys).isPrefixOf (dl xs) with _ | _
          · rfl
          · have := (List.isPrefixOf_iff_prefix.1 hx).length_le
            rw [dl_length, dl_length] at this
            omega
        clear hR
        go_wp2_with fail
        go_ret
        exact ⟨rfl, HB2.out⟩
      · have i1 : ¬ (xs.length : Int) < (ys.length : Int) := by omega
        have i2 : (0 : Int) ≤ (ys.length : Int) := by omega
        have i3 : (ys.length : Int) ≤ (c : Int) := by omega
        rw [prefix_take _ _ (by rw [dl_length, dl_length]; omega)] at hR
        have hd : (decide ((dl xs).take (dl ys).length = dl ys)) = decide (xs.take ys.length = ys) := by
          rw [dl_length, show (dl xs).take ys.length = dl (xs.take ys.length) by simp [dl]]
          exact decide_eq_decide.2 dl_inj
        rw [hd] at hR
        have hS : Strs w2 w2.heap.size (.slice A ys.length c) (xs.take ys.length) := by
          have hlt : (xs.take ys.length).length = ys.length := by rw [List.length_take]; omega
          refine ⟨A, c, by rw [hlt], by omega, hm, fun j x hx => ?_⟩
          have hj := get_lt hx
          rw [List.length_map, hlt] at hj
          refine HRr.out j x ?_
          rw [List.getElem?_map, List.getElem?_take, if_pos hj, ← List.getElem?_map] at hx
          exact hx
        have KE := Lib.hid (equal_any _ _ _ _ w2 hS HY.out (fun a n c e => by cases e; exact HFX.out a _ _ rfl) HFY.out)
        rw [← hR] at KE
        clear hR hd hS
        go_wp2_with fail
        refine KE.out.mono ?_
        rintro e w3 ⟨rfl, hb3⟩
        go_wp2_with fail
        go_ret
        exact ⟨rfl, HB2.out.trans (hb3.mono HB2.out.size)⟩
    · obtain rfl : R = false := by
        rw [← HR.out]
        unfold withinL
        rw [HA.out, ha2]
      have HB2 := Lib.hid (HB.out.trans (hb2.mono HB.out.size))
      clear ha2 hb2 K2
      go_wp2_with fail
      go_ret
      exact ⟨rfl, HB2.out⟩
  · obtain rfl : R = false := by
      rw [← HR.out]
      unfold withinL
      rw [ha]
    clear ha K1
    go_wp2_with fail
    go_ret
    exact ⟨rfl, hb⟩
end Go.Proofs.YteihffmenfobaaaDoor

