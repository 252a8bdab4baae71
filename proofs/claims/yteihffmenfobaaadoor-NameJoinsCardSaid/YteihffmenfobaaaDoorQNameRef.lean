/- What the document's Split and Join of names answer. No condition but that texts aren't too long. -/
import Derived.Test.YteihffmenfobaaaDoorQNameStr
import Derived.Test.YteihffmenfobaaaDoorQCore
namespace Go.Proofs.YteihffmenfobaaaDoor
open Go.RowKit Go.Shelf
theorem strTy : OneCell Tryd.prog 23 9 (.string ByteArray.empty) 16 := OneCell.mk' Tryd.underlying23 (by kernel_rfl) rfl
/-- a slice of texts of the call's own -/
def OwnS (w : World) (base : Nat) (v : Value) (xs : List ByteArray) : Prop := w.ownsRow base 9 1 v xs.length (xs.map Value.string)
theorem OwnS.strs {w : World} {base : Nat} {v : Value} {xs : List ByteArray} (h : OwnS w base v xs) : Strs w w.heap.size v xs := by
  obtain ⟨A, c, rfl, h1, h2⟩ := ownsRow_shape h
  exact ⟨A, c, rfl, h1, h2, ownsRow_row h⟩
theorem OwnS.made (w : World) (base : Nat) (hb : base ≤ w.heap.size) (g : Nat) (hg : g = w.heap.size) : OwnS (w.alloc (.cells #[] 9)) base (.slice (some ⟨g, 0, none⟩) 0 0) [] := by
  subst hg
  exact World.ownsRow_made (size := 1) w #[] 0 hb (by simp [maxLen]) (by simp)
theorem OwnS.shape {w : World} {base : Nat} {v : Value} {xs : List ByteArray} (h : OwnS w base v xs) : ∃ A c, v = .slice A xs.length c ∧ xs.length ≤ c ∧ c ≤ maxLen := ownsRow_shape h
/-- what the document's Split answers -/
def RSplitOut (w : World) (l : List UInt8) (e : Ending) (w' : World) : Prop :=
  ∃ v xs ok, e = .returned (.tuple #[v, .bool ok]) ∧ Strs w' w'.heap.size v xs ∧ Below w.heap.size w w' ∧ (ok = true ∧ splitL l = some (dl xs) ∨ ok = false ∧ splitL l = none ∧ xs = [])
/-- a piece, and what is left -/
structure Cutting (s : ByteArray) (t : List UInt8) (out : List ByteArray) (fr i : Nat) : Prop where
  le : fr ≤ i
  all : cut t = dl out ++ (if fr ≤ s.size then cut (s.data.toList.drop fr) else [])
  clean : ∀ j, fr ≤ j → j < i → (s.get! j) ≠ 47
  right : (dl out).all rightL = true
  top : fr ≤ s.size + 1
  at_ : fr ≤ s.size ∨ i = s.size + 1
  len : out.length ≤ fr
  past : i = s.size + 1 → ¬ fr ≤ s.size
theorem get!_list (s : ByteArray) (j : Nat) (h : j < s.data.toList.length) : s.data.toList[j] = s.get! j := by
  have h1 := get!_at s j (by rw [Lib.size_eq]; exact h)
  rw [List.getElem?_eq_getElem h] at h1
  exact Option.some.inj h1
theorem piece_clean {s : ByteArray} {fr i : Nat} (h : ∀ j, fr ≤ j → j < i → (s.get! j) ≠ 47) : ¬ 47 ∈ (s.extract fr i).data.toList := by
  rw [Lib.extract_data]
  intro hm
  obtain ⟨j, hj⟩ := List.mem_iff_getElem?.1 hm
  rw [List.getElem?_take] at hj
  split at hj
  · rename_i hji
    rw [List.getElem?_drop] at hj
    have hl : fr + j < s.size := by
      rw [Lib.size_eq]
      exact (List.getElem?_eq_some_iff.1 hj).1
    rw [get!_at s _ hl] at hj
    exact h (fr + j) (by omega) (by omega) (Option.some.inj hj)
  · cases hj
theorem Cutting.next {s : ByteArray} {t : List UInt8} {out : List ByteArray} {fr i : Nat} (h : Cutting s t out fr i) (hi : i ≤ s.size) (hc : s.get! i ≠ 47) (hf : fr ≤ s.size) (hlt : i < s.size) : Cutting s t out fr (i + 1) :=
  ⟨Nat.le_succ_of_le h.le, h.all, fun j j1 j2 => by
    rcases (show j < i ∨ j = i by omega) with h' | rfl
    · exact h.clean j j1 h'
    · exact hc, h.right, h.top, .inl hf, h.len, fun e => by omega⟩
theorem Cutting.piece {s : ByteArray} {t : List UInt8} {out : List ByteArray} {fr i : Nat} (h : Cutting s t out fr i) (hi : i ≤ s.size) (hf : fr ≤ s.size) (he : i = s.size ∨ (i < s.size ∧ s.get! i = 47)) :
    cut t = dl (out ++ [s.extract fr i]) ++ (if i + 1 ≤ s.size then cut (s.data.toList.drop (i + 1)) else []) := by
  have hcl := piece_clean h.clean
  have ha := h.all
  have hle := h.le
  rw [if_pos hf] at ha
  rw [ha, show dl (out ++ [s.extract fr i]) = dl out ++ [(s.extract fr i).data.toList] by simp [dl], List.append_assoc]
  congr 1
  rcases he with rfl | ⟨hlt, h47⟩
  · rw [if_neg (by omega), List.append_nil]
    have e := Lib.extract_to_end s fr
    rw [← e]
    exact cut_clean hcl
  · rw [if_pos (by omega)]
    have hl : i < s.data.toList.length := by rw [← Lib.size_eq]; exact hlt
    have e : s.data.toList.drop fr = (s.extract fr i).data.toList ++ 47 :: s.data.toList.drop (i + 1) := by
      rw [Lib.extract_data]
      have h1 : s.data.toList.drop i = 47 :: s.data.toList.drop (i + 1) := by
        rw [List.drop_eq_getElem_cons hl, get!_list s i hl, h47]
      have h2 : (s.data.toList.drop fr).drop (i - fr) = s.data.toList.drop i := by
        rw [List.drop_drop]
        congr 1
        omega
      rw [← h1, ← h2]
      exact (List.take_append_drop _ _).symm
    rw [e, cut_at _ _ hcl]
    rfl
theorem Cutting.step {s : ByteArray} {t : List UInt8} {out : List ByteArray} {fr i : Nat} (h : Cutting s t out fr i) (hi : i ≤ s.size) (hf : fr ≤ s.size) (he : i = s.size ∨ (i < s.size ∧ s.get! i = 47)) (hr : rightL (s.extract fr i).data.toList = true) :
    Cutting s t (out ++ [s.extract fr i]) (i + 1) (i + 1) :=
  ⟨Nat.le_refl _, h.piece hi hf he, fun j j1 j2 => by omega, by rw [show dl (out ++ [s.extract fr i]) = dl out ++ [(s.extract fr i).data.toList] by simp [dl], List.all_append, h.right]; simp only [List.all_cons, List.all_nil, Bool.and_true, hr], by omega, by omega, by
    have := h.len
    have := h.le
    rw [List.length_append, List.length_singleton]
    omega, fun e => by omega⟩
theorem Cutting.wrong {s : ByteArray} {t : List UInt8} {out : List ByteArray} {fr i : Nat} (h : Cutting s t out fr i) (hi : i ≤ s.size) (hf : fr ≤ s.size) (he : i = s.size ∨ (i < s.size ∧ s.get! i = 47)) (hr : rightL (s.extract fr i).data.toList = false) : fitL (cut t) = false := by
  rw [h.piece hi hf he]
  unfold fitL
  rw [Bool.and_eq_false_iff]
  refine .inr ?_
  rw [List.all_eq_false]
  exact ⟨(s.extract fr i).data.toList, by simp [dl], by rw [hr]; simp⟩
theorem Cutting.over {s : ByteArray} {t : List UInt8} {out : List ByteArray} {fr : Nat} (h : Cutting s t out fr (s.size + 1)) : ¬ fr ≤ s.size := h.past rfl
theorem Cutting.done {s : ByteArray} {t : List UInt8} {out : List ByteArray} {fr : Nat} (h : Cutting s t out fr (s.size + 1)) (hf : ¬ fr ≤ s.size) : cut t = dl out ∧ fitL (cut t) = decide (out.length ≤ 6) := by
  have ha := h.all
  rw [if_neg hf, List.append_nil] at ha
  refine ⟨ha, ?_⟩
  rw [ha]
  unfold fitL
  rw [h.right, dl_length, Bool.and_true]
set_option maxHeartbeats 8000000 in
set_option maxRecDepth 100000 in
theorem refSplit_any (s : ByteArray) (w : World) (hs : s.size ≤ 1000000) :
    Calls Tryd.prog 9 #[.string s] w fun e w' => RSplitOut w s.data.toList e w' := by
  have hO := OwnS.made w w.heap.size (Nat.le_refl _) w.heap.size rfl
  have hB := (Below.refl w.heap.size w).alloc (Nat.le_refl _) (.cells #[] 9)
  have HO := Lib.hid hO
  have HB := Lib.hid hB
  clear hO hB
  by_cases h1 : s.toList = [47]
  · go_enter Tryd.func9, Tryd.ntmps9
    go_wp2
    go_ret2
    refine ⟨_, [], true, rfl, HO.out.strs, HB.out, .inl ⟨rfl, ?_⟩⟩
    rw [← Lib.toList_data, h1]
    rfl
  · have g1 : (s.toList == [47]) = false := by simpa using h1
    have hne : s.data.toList ≠ [47] := by rw [← Lib.toList_data]; exact h1
    have HN := Lib.hid hne
    clear h1 hne
    by_cases h100 : 100 < s.size
    · have hno : splitL s.data.toList = none := by
        rcases hx : splitL s.data.toList with _ | ns
        · rfl
        · have := splitL_length hx
          rw [← Lib.size_eq] at this
          omega
      have HNo := Lib.hid hno
      have i1 : ((s.size : Int) == 0) = false := beq_eq_false_iff_ne.2 (by omega)
      have i2 : (0 : Int) < (s.size : Int) := by omega
      have i3 : (100 : Int) < (s.size : Int) := by omega
      clear hno
      go_enter Tryd.func9, Tryd.ntmps9
      go_wp2
      all_goals
        go_ret2
        exact ⟨_, [], false, rfl, HO.out.strs, HB.out, .inr ⟨rfl, HNo.out, rfl⟩⟩
    · by_cases hp : s.data.toList.head? = some 47
      · obtain ⟨t, ht⟩ : ∃ t, s.data.toList = 47 :: t := by
          cases hl : s.data.toList with
          | nil => rw [hl] at hp; cases hp
          | cons b t =>
            rw [hl] at hp
            simp at hp
            exact ⟨t, by rw [hp]⟩
        have ht0 : t ≠ [] := fun e => HN.out (by rw [ht, e])
        have hsz : s.size = t.length + 1 := by rw [Lib.size_eq, ht, List.length_cons]
        have h0 : 0 < s.size := by omega
        have hx0 : s[0]'h0 = 47 := by
          have h2 := Lib.data_getElem? s 0 h0
          rw [ht] at h2
          exact (Option.some.inj h2).symm
        have i1 : ((s.size : Int) == 0) = false := beq_eq_false_iff_ne.2 (by omega)
        have i2 : (0 : Int) < (s.size : Int) := by omega
        have i3 : ¬ (100 : Int) < (s.size : Int) := by omega
        have HC : Hid (Cutting s t [] 1 1) := Lib.hid ⟨Nat.le_refl _, by rw [if_pos (by omega), ht]; rfl, fun j j1 j2 => by omega, rfl, by omega, .inl (by omega), by simp, fun e => by omega⟩
        have HL := Lib.hid (splitL_slash t ht0)
        have HT := Lib.hid ht
        have h101 : s.size ≤ 100 := by omega
        clear ht ht0 hsz hp h100
        go_enter Tryd.func9, Tryd.ntmps9
        go_wp2
        go_loopg [4, 5, 6] s.size (fun g v f i wx => ∃ (q fr : Nat) (out : List ByteArray), q + g = s.size + 1 ∧ 1 ≤ q ∧ i = .int .i64 q ∧ f = .int .i64 fr ∧ Hid (OwnS wx w.heap.size v out) ∧ Hid (Below w.heap.size w wx) ∧ Hid (Cutting s t out fr q))
        case atStart => exact ⟨1, 1, [], by omega, by omega, rfl, rfl, HO, HB, HC⟩
        case round =>
          obtain ⟨q, fr, out, hqg, hq1, rfl, rfl, HO1, HB1, HC1⟩ := hrel
          clear HO HB HC hx0
          obtain ⟨A, c, rfl, hlc, hcm⟩ := HO1.out.shape
          by_cases hend : q = s.size + 1
          · subst hend
            have i4 : ¬ ((s.size + 1 : Nat) : Int) ≤ (s.size : Int) := by omega
            have hnf : ¬ fr ≤ s.size := HC1.out.over
            obtain ⟨d1, d2⟩ := HC1.out.done hnf
            by_cases h6 : 6 < out.length
            · have j1 : (6 : Int) < (out.length : Int) := by omega
              have HNo : Hid (splitL s.data.toList = none) := Lib.hid (by rw [HT.out, HL.out, d2, decide_eq_false (by omega)]; rfl)
              have HO9 := Lib.hid (OwnS.made wr w.heap.size HB1.out.size wr.heap.size rfl)
              have HB9 := Lib.hid (HB1.out.alloc HB1.out.size (.cells #[] 9))
              clear d1 d2
              go_wp2
              go_ret2
              exact ⟨_, [], false, rfl, HO9.out.strs, HB9.out, .inr ⟨rfl, HNo.out, rfl⟩⟩
            · have j1 : ¬ (6 : Int) < (out.length : Int) := by omega
              have HY : Hid (splitL s.data.toList = some (dl out)) := Lib.hid (by rw [HT.out, HL.out, d2, decide_eq_true (by omega), if_pos rfl, d1])
              clear d1 d2
              go_wp2
              go_ret2
              exact ⟨_, out, true, rfl, HO1.out.strs, HB1.out, .inl ⟨rfl, HY.out⟩⟩
          · have hle : q ≤ s.size := by omega
            have hff : fr ≤ s.size := by
              rcases HC1.out.at_ with h | h
              · exact h
              · omega
            have hfq := HC1.out.le
            have i4 : (q : Int) ≤ (s.size : Int) := by omega
            cases gk with
            | zero => omega
            | succ g =>
              by_cases hqe : q = s.size
              · have he : q = s.size ∨ (q < s.size ∧ s.get! q = 47) := .inl hqe
                have j1 : ((q : Int) == (s.size : Int)) = true := beq_iff_eq.2 (by omega)
                have j2 : (fr : Int) ≤ (q : Int) := by omega
                clear hqe
                have HE := Lib.hid he
                have hS := HC1.out.step hle hff he
                have hWr := HC1.out.wrong hle hff he
                have hcl : out.length ≤ 101 := by have := HC1.out.len; omega
                obtain ⟨R, hR⟩ : ∃ R, rightL (s.extract fr q).data.toList = R := ⟨_, rfl⟩
                have KR := Lib.hid (refRight_any (s.extract fr q))
                rw [hR] at hS hWr KR
                clear hR he
                cases R with
                | false =>
                  have HNo : Hid (splitL s.data.toList = none) := Lib.hid (by rw [HT.out, HL.out, hWr rfl]; rfl)
                  have HO9 := Lib.hid (OwnS.made wr w.heap.size HB1.out.size wr.heap.size rfl)
                  have HB9 := Lib.hid (HB1.out.alloc HB1.out.size (.cells #[] 9))
                  clear hS hWr
                  go_wp2_with (go_at_call 11; refine (KR.out _).mono ?_; rintro e w9 ⟨rfl, rfl⟩)
                  go_ret2
                  exact ⟨_, [], false, rfl, HO9.out.strs, HB9.out, .inr ⟨rfl, HNo.out, rfl⟩⟩
                | true =>
                  have HS := Lib.hid (hS rfl)
                  have R2 : Hid (Row (wr.alloc (.cells #[.string (s.extract fr q)] 9)) (wr.heap.size + 1) (some ⟨wr.heap.size, 0, none⟩) [.string (s.extract fr q)]) := Lib.hid (Row.new wr #[.string (s.extract fr q)] 9 (0, 0) wr.heap.size rfl (Nat.lt_succ_self _))
                  have hbr := HB1.out.alloc HB1.out.size (.cells #[.string (s.extract fr q)] 9)
                  have HO2 := Lib.hid (World.ownsRow.alloc HO1.out (.cells #[.string (s.extract fr q)] 9))
                  have hbs : w.heap.size ≤ (wr.alloc (.cells #[.string (s.extract fr q)] 9)).heap.size := hbr.size
                  have HBR := Lib.hid hbr
                  have hsub : ((q : Int) - (fr : Int)) = ((q - fr : Nat) : Int) := by omega
                  obtain ⟨m, hm⟩ : ∃ m, out.length + 1 = m := ⟨_, rfl⟩
                  have hm63 : out.length + 1 ≤ maxLen := by simp only [maxLen]; omega
                  clear hS hWr hbr hsub
                  obtain ⟨PC, hPC⟩ : ∃ PC, PC = s.extract fr q := ⟨_, rfl⟩
                  rw [← hPC] at KR R2 HO2 hbs HBR HS
                  have hPC2 := hPC.symm
                  clear hPC
                  go_wp2_with (first
                    | (go_at_call 11; refine (KR.out _).mono ?_; rintro e w9 ⟨rfl, rfl⟩)
                    | (at_builtin; refine wpl_append_vals strTy rfl (.tmp 48) (.tmp 53) rfl out.length rfl HO2.out _ _ _ [.string PC] 1 rfl rfl R2.out (by intro u hu; simp at hu; subst hu; rfl) (by omega) hm63 hbs m hm ?_; intro A8 c8 w8 O8 g8 h8))
                  have HO8 : Hid (OwnS w8 w.heap.size (.slice A8 m c8) (out ++ [PC])) := Lib.hid (by
                    unfold OwnS
                    rw [List.map_append, List.length_append, List.length_singleton, hm]
                    exact O8)
                  have HB8 := Lib.hid (HBR.out.grown g8 hbs fun k hk => (World.ownsRow.lt HO2.out k hk).1)
                  clear O8 g8 h8
                  go_roundg g
                  case measure => omega
                  case rel => exact ⟨q + 1, q + 1, out ++ [PC], by omega, by omega, by go_num, by go_num, HO8, HB8, HS⟩
              have hql : q < s.size := by omega
              by_cases hqc : s.get! q = 47
              · have he : q = s.size ∨ (q < s.size ∧ s.get! q = 47) := .inr ⟨hql, hqc⟩
                have j1 : ((q : Int) == (s.size : Int)) = false := beq_eq_false_iff_ne.2 (by omega)
                have j2 : (fr : Int) ≤ (q : Int) := by omega
                have j3 : (q : Int) < (s.size : Int) := by omega
                have j4 : s[q]'hql = 47 := by rw [← hqc]; simpa using (get_at s q hql).symm
                clear hqc hqe
                have HE := Lib.hid he
                have hS := HC1.out.step hle hff he
                have hWr := HC1.out.wrong hle hff he
                have hcl : out.length ≤ 101 := by have := HC1.out.len; omega
                obtain ⟨R, hR⟩ : ∃ R, rightL (s.extract fr q).data.toList = R := ⟨_, rfl⟩
                have KR := Lib.hid (refRight_any (s.extract fr q))
                rw [hR] at hS hWr KR
                clear hR he
                cases R with
                | false =>
                  have HNo : Hid (splitL s.data.toList = none) := Lib.hid (by rw [HT.out, HL.out, hWr rfl]; rfl)
                  have HO9 := Lib.hid (OwnS.made wr w.heap.size HB1.out.size wr.heap.size rfl)
                  have HB9 := Lib.hid (HB1.out.alloc HB1.out.size (.cells #[] 9))
                  clear hS hWr
                  go_wp2_with (go_at_call 11; refine (KR.out _).mono ?_; rintro e w9 ⟨rfl, rfl⟩)
                  go_ret2
                  exact ⟨_, [], false, rfl, HO9.out.strs, HB9.out, .inr ⟨rfl, HNo.out, rfl⟩⟩
                | true =>
                  have HS := Lib.hid (hS rfl)
                  have R2 : Hid (Row (wr.alloc (.cells #[.string (s.extract fr q)] 9)) (wr.heap.size + 1) (some ⟨wr.heap.size, 0, none⟩) [.string (s.extract fr q)]) := Lib.hid (Row.new wr #[.string (s.extract fr q)] 9 (0, 0) wr.heap.size rfl (Nat.lt_succ_self _))
                  have hbr := HB1.out.alloc HB1.out.size (.cells #[.string (s.extract fr q)] 9)
                  have HO2 := Lib.hid (World.ownsRow.alloc HO1.out (.cells #[.string (s.extract fr q)] 9))
                  have hbs : w.heap.size ≤ (wr.alloc (.cells #[.string (s.extract fr q)] 9)).heap.size := hbr.size
                  have HBR := Lib.hid hbr
                  have hsub : ((q : Int) - (fr : Int)) = ((q - fr : Nat) : Int) := by omega
                  obtain ⟨m, hm⟩ : ∃ m, out.length + 1 = m := ⟨_, rfl⟩
                  have hm63 : out.length + 1 ≤ maxLen := by simp only [maxLen]; omega
                  clear hS hWr hbr hsub
                  obtain ⟨PC, hPC⟩ : ∃ PC, PC = s.extract fr q := ⟨_, rfl⟩
                  rw [← hPC] at KR R2 HO2 hbs HBR HS
                  have hPC2 := hPC.symm
                  clear hPC
                  go_wp2_with (first
                    | (go_at_call 11; refine (KR.out _).mono ?_; rintro e w9 ⟨rfl, rfl⟩)
                    | (at_builtin; refine wpl_append_vals strTy rfl (.tmp 48) (.tmp 53) rfl out.length rfl HO2.out _ _ _ [.string PC] 1 rfl rfl R2.out (by intro u hu; simp at hu; subst hu; rfl) (by omega) hm63 hbs m hm ?_; intro A8 c8 w8 O8 g8 h8))
                  have HO8 : Hid (OwnS w8 w.heap.size (.slice A8 m c8) (out ++ [PC])) := Lib.hid (by
                    unfold OwnS
                    rw [List.map_append, List.length_append, List.length_singleton, hm]
                    exact O8)
                  have HB8 := Lib.hid (HBR.out.grown g8 hbs fun k hk => (World.ownsRow.lt HO2.out k hk).1)
                  clear O8 g8 h8
                  go_roundg g
                  case measure => omega
                  case rel => exact ⟨q + 1, q + 1, out ++ [PC], by omega, by omega, by go_num, by go_num, HO8, HB8, HS⟩
              · have HS := Lib.hid (HC1.out.next hle hqc hff hql)
                have j1 : ((q : Int) == (s.size : Int)) = false := beq_eq_false_iff_ne.2 (by omega)
                have j3 : (q : Int) < (s.size : Int) := by omega
                have hgx : s.get! q = s[q]'hql := by simpa using get_at s q hql
                have j4 : (((s[q]'hql).toNat : Int) == 47) = false := beq_eq_false_iff_ne.2 fun e => hqc (by rw [hgx]; exact UInt8.toNat_inj.1 (by show (s[q]'hql).toNat = 47; omega))
                clear hgx hqc hqe
                go_wp2
                go_roundg g
                case measure => omega
                case rel => exact ⟨q + 1, fr, out, by omega, by omega, by go_num, rfl, HO1, HB1, HS⟩
      · have hno := splitL_other hp
        have HNo := Lib.hid hno
        clear hno
        by_cases hz : s.size = 0
        · have i1 : ((s.size : Int) == 0) = true := beq_iff_eq.2 (by omega)
          clear hp
          go_enter Tryd.func9, Tryd.ntmps9
          go_wp2
          go_ret2
          exact ⟨_, [], false, rfl, HO.out.strs, HB.out, .inr ⟨rfl, HNo.out, rfl⟩⟩
        · have h0 : 0 < s.size := by omega
          have i1 : ((s.size : Int) == 0) = false := beq_eq_false_iff_ne.2 (by omega)
          have i2 : (0 : Int) < (s.size : Int) := by omega
          have i3 : (((s[0]'h0).toNat : Int) != 47) = true := by
            have h2 := Lib.data_getElem? s 0 h0
            rw [bne_iff_ne]
            intro e
            refine hp ?_
            rw [List.head?_eq_getElem?, h2]
            congr 1
            exact UInt8.toNat_inj.1 (by show (s[0]'h0).toNat = 47; omega)
          clear hp hz
          go_enter Tryd.func9, Tryd.ntmps9
          go_wp2
          go_ret2
          exact ⟨_, [], false, rfl, HO.out.strs, HB.out, .inr ⟨rfl, HNo.out, rfl⟩⟩
end Go.Proofs.YteihffmenfobaaaDoor

