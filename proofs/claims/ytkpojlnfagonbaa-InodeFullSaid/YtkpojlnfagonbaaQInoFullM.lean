/- What InodeFull needs, plainly: entries put in one by one are those put in at once, in any order. And an append says where its row lies. No condition. -/
import Derived.Test.YtkpojlnfagonbaaQInoEntM
import Derived.Test.YtkpojlnfagonbaaQInoStep
import Derived.Test.YtkpojlnfagonbaaQInoWrite
import Derived.Laws.AppendOwn
import Derived.Laws.OwnMore
namespace Go.Proofs.Ytkpojlnfagonbaa
open Go Go.RowKit
theorem insP_perm {n : IN} (h : n.dir) {x : EN} (hf : (findL n.es x.n).2 ≠ true) : (insP false n.es x).Perm (x :: n.es) := by
  obtain ⟨i, hp⟩ := place_ex h.2.2.2 x.n
  have hfs := find_search h.2.2.2 hp
  have hnn : ¬ (i < n.es.length ∧ (atE n.es i).n = x.n) := by
    rintro ⟨h1, h2⟩
    rw [decide_eq_true h1, decide_eq_true h2] at hfs
    exact hf hfs
  rw [ins_search hp hnn]
  refine List.perm_middle.trans ?_
  rw [List.take_append_drop]
/-- one entry more: it is refused, or the directory has it -/
theorem with_step {n : IN} (h : n.dir) (x : EN) : (withI n [x]).2 ≠ 0 ∨ ∃ es, withI n [x] = (⟨2, 0, es⟩, 0) ∧ IN.dir ⟨2, 0, es⟩ ∧ es.Perm (x :: n.es) := by
  rw [withI_one, if_pos h]
  by_cases h1 : okE x = false
  · rw [if_pos h1]; exact .inl (by decide)
  · rw [if_neg h1]
    by_cases h2 : (findL n.es x.n).2 = true
    · rw [if_pos h2]; exact .inl (by decide)
    · rw [if_neg h2]
      by_cases h3 : n.es.length = 8
      · rw [if_pos h3]; exact .inl (by decide)
      · rw [if_neg h3]
        exact .inr ⟨_, rfl, ins_dir h (by simpa using h1) h2 h3, insP_perm h h2⟩
theorem good_less {es : List EN} (h : GoodTo es es.length) (i : Nat) : ∀ j, i < j → j < es.length → less (atE es i).n (atE es j).n = true
  | 0, hi, _ => absurd hi (by omega)
  | j + 1, hi, hj => by
    have h1 := (h (j + 1) hj).2 (by omega)
    rw [Nat.add_sub_cancel] at h1
    by_cases hij : i = j
    · rw [hij]; exact h1
    · exact less_trans (good_less h i j (by omega) (by omega)) h1
theorem good_pairs {es : List EN} (h : GoodTo es es.length) : es.Pairwise (fun a b => less a.n b.n = true) := by
  rw [List.pairwise_iff_getElem]
  intro i j hi hj hij
  have h1 := good_less h i j hij hj
  obtain ⟨_, e1⟩ := List.getElem?_eq_some_iff.1 (atE_get hi)
  obtain ⟨_, e2⟩ := List.getElem?_eq_some_iff.1 (atE_get hj)
  rw [e1, e2]
  exact h1
theorem less_ne {a b : ByteArray} (h : less a b = true) : a ≠ b := fun e => by rw [e, less_irrefl] at h; cases h
/-- all of them can be put in -/
theorem with_perm : ∀ (xs es : List EN), IN.dir ⟨2, 0, es⟩ → (es ++ xs).length ≤ 8 → (∀ e ∈ xs, okE e = true) → (es ++ xs).Pairwise (fun a b => a.n ≠ b.n) → ∃ R, withL es xs = (R, 0) ∧ IN.dir ⟨2, 0, R⟩ ∧ R.Perm (es ++ xs)
  | [], es, h, _, _, _ => ⟨es, rfl, h, by rw [List.append_nil]⟩
  | x :: xs, es, h, h8, hok, hne => by
    have h1 : okE x = true := hok x (.head _)
    have h2 : (findL es x.n).2 ≠ true := by
      intro hc
      obtain ⟨j, hj, hjn⟩ := (findL_some es x.n).1 hc
      have hm : atE es j ∈ es := List.mem_of_getElem? (atE_get hj)
      exact (List.pairwise_append.1 hne).2.2 _ hm x (.head _) (toList_inj hjn)
    have h3 : es.length ≠ 8 := by
      rw [List.length_append, List.length_cons] at h8
      omega
    have hd := ins_dir h h1 h2 h3
    have hp := insP_perm h h2
    have hp2 : (insP false es x ++ xs).Perm (es ++ x :: xs) := (hp.append_right xs).trans List.perm_middle.symm
    obtain ⟨R, e1, e2, e3⟩ := with_perm xs _ hd (by rw [hp2.length_eq]; exact h8) (fun e he => hok e (.tail _ he)) ((hp2.pairwise_iff (fun {a b} (hab : a.n ≠ b.n) => hab.symm)).2 hne)
    refine ⟨R, ?_, e2, e3.trans hp2⟩
    rw [withL_cons, if_neg (by rw [h1]; decide), if_neg h2, if_neg h3]
    exact e1
/-- and in any order it is the same directory -/
theorem with_same {L P : List EN} (h : IN.dir ⟨2, 0, L⟩) (hp : L.Perm P) : withI ⟨2, 0, []⟩ P = (⟨2, 0, L⟩, 0) := by
  have h0 : IN.dir ⟨2, 0, []⟩ := ⟨rfl, rfl, Nat.zero_le _, GoodTo.zero _⟩
  have hL := good_pairs h.2.2.2
  have hok : ∀ e ∈ P, okE e = true := fun e he => good_all h.2.2.2 e (hp.symm.subset he)
  have h8 : L.length ≤ 8 := h.2.2.1
  obtain ⟨R, e1, e2, e3⟩ := with_perm P [] h0 (by rw [List.nil_append, ← hp.length_eq]; exact h8) hok (by
    rw [List.nil_append]
    exact (hp.pairwise_iff (fun {a b} (hab : a.n ≠ b.n) => hab.symm)).1 (hL.imp less_ne))
  have hR := good_pairs e2.2.2.2
  have e4 : R = L := (e3.trans hp.symm).eq_of_pairwise (fun a b _ _ h1 h2 => by
    have := less_asymm h1
    rw [h2] at this
    cases this) hR hL
  unfold withI
  rw [if_pos h0]
  show (if (withL [] P).2 = 0 then _ else _) = _
  rw [e1, e4]
  rfl
/-- an append's row is the old one, or a new one -/
theorem append_block {P : Program} {w : World} (base : Nat) (t ty e : TypeId) (i : TypeInfo) (z : Value) (size bytes : Nat) (ht : P.underlying t = some (.slice e)) (hi : P.info? e = some i) (hz : i.zero = some z)
    (hsize : i.size = size) (hby : i.bytes = bytes) (v : Value) (n : Nat) (xs : List Value) (hown : w.ownsRow base e size v n xs)
    (a : Addr) (m c : Nat) (news : List Value) (hl : news.length = m * size) (hnews : ∀ j u, news[j]? = some u → w.cell? (a.add j) = some u) (h1 : ∀ u ∈ news, u.oneCell' = true)
    (h63 : n + m ≤ 100000) (hbytes : (n + m) * bytes ≤ 140737488355328) (hm : 0 < m) (hs : 0 < size) {v' : Value} {w' : World} (hr : (Builtin.append_ #[t, t] ty #[v, .slice (some a) m c]).run P w = .ok v' w') :
    v'.ownBlock = v.ownBlock ∨ v'.ownBlock = some w.heap.size := by
  subst hsize
  subst hby
  rcases hown.2 with ⟨rfl, rfl⟩ | ⟨g, cap, cur, rfl, hbg, hg, hnc, hcm, hcs, htake⟩
  · have h := run_append_nil (P := P) w t ty e i z ht hi hz a m c news hl hnews (by omega) (by omega) (by have hb := hbytes; simp only [Nat.zero_add] at hb; omega)
    rw [h] at hr
    cases hr
    exact .inr rfl
  · by_cases hroom : n + m ≤ cap
    · have hfit : n * i.size + news.length ≤ cur.size := by rw [hl, hcs, ← Nat.add_mul]; exact Nat.mul_le_mul_right _ hroom
      have h := run_append_room (P := P) w t ty e i ht hi g n cap cur hg a m c news hl hnews h1 hroom hfit
      rw [h] at hr
      cases hr
      exact .inl rfl
    · have holds : ∀ j u, xs[j]? = some u → w.cell? ((⟨g, 0, none⟩ : Addr).add j) = some u := hown.cells (g := g) rfl
      have h := run_append_grow (P := P) w t ty e i z ht hi hz ⟨g, 0, none⟩ n cap xs hown.1 holds a m c news hl hnews (by omega) (by omega) (growslice_fits (by omega) hbytes)
      rw [h] at hr
      cases hr
      exact .inr rfl
/-- one entry more behind a row of one's own: where the row lies -/
theorem wpl_append_one {ti : TypeInfo} {w : World} {base : Nat} {v : Value} {n : Nat} {xs : List EN} {ops : Array Oper} {rest : List Oper} {o : Oper} {a : Act} {Q : Exit → Act → World → Prop} {z : Value}
    (hi : Try.prog.info? 32 = some ti) (hz : ti.zero = some z) (hzc : z.cells.size = 2) (hs : ti.size = 2) (hby : ti.bytes = 24) (hgd : Region.wanted o (yielded ops a.tmps) = true) (s x : Operand)
    (ho : o.op = .call { callee := .builtin .append, args := #[s, x], argTypes := #[22, 22] })
    (hn : xs.length = n) (hv : a.eval s = v) (hown : OwnE w base v xs) (ad : Addr) (c : Nat) (e : EN) (hx : a.eval x = .slice (some ad) 1 c) (B : Nat) (hr : Row w B (some ad) (erows [e]))
    (hnm : n ≤ 1000) (hbase : base ≤ w.heap.size)
    (h : ∀ A' c' w', OwnE w' base (.slice A' (n + 1) c') (xs ++ [e]) → w.grownBy w' v.ownBlock → ((Value.slice A' (n + 1) c').ownBlock = v.ownBlock ∨ (Value.slice A' (n + 1) c').ownBlock = some w.heap.size) → wpList Try.prog ops Q rest (a.put o.dst (.slice A' (n + 1) c')) w') :
    wpList Try.prog ops Q (o :: rest) a w := by
  subst hn
  have hcell : ∀ j u, (erows [e])[j]? = some u → w.cell? (ad.add j) = some u := fun j u hu => by obtain ⟨a', e, _, hc⟩ := hr j u hu; cases e; exact hc
  have hown' : w.ownsRow base 32 2 v xs.length (erows xs) := hown
  obtain ⟨v', w', hrun, h2, h3, _⟩ := run_append_own (P := Try.prog) w base 22 o.type 32 ti z 2 24 Try.underlying22 hi hz hs hby hzc (by omega) v xs.length (erows xs) hown ad 1 c (erows [e]) (by rw [erows_length]; rfl) hcell (fun u hu => erow_one u hu) (by simp only [maxLen]; omega) (by omega) hbase
  have h5 := append_block (P := Try.prog) (w := w) base 22 o.type 32 ti z 2 24 Try.underlying22 hi hz hs hby v xs.length (erows xs) hown' ad 1 c (erows [e]) (by rw [erows_length]; rfl) hcell (fun u hu => erow_one u hu) (by omega) (by omega) (by omega) (by omega) hrun
  have h4 : ∃ A' c', v' = .slice A' (xs.length + 1) c' := by
    rcases h2.2 with ⟨rfl, h0⟩ | ⟨g, cap, cur, rfl, _⟩
    · exact ⟨none, 0, by rw [h0]⟩
    · exact ⟨_, _, rfl⟩
  obtain ⟨A', c', rfl⟩ := h4
  have ho2 : OwnE w' base (.slice A' (xs.length + 1) c') (xs ++ [e]) := by
    unfold OwnE
    rw [erows_append, List.length_append]
    exact h2
  refine BigFrame.wpList_want hgd fun K hK => ?_
  unfold Oper.wp execOp
  simp only [ho, resolve, invoke, builtin, Sem.run_bind, Sem.run_pure, Result.andThen_ok, List.map_toArray, List.map_cons, List.map_nil, hv, hx, hrun]
  exact hK _ _ (h A' c' w' ho2 h3 h5)
theorem row_one {w : World} {g : Nat} {x : EN} (h : Blk w g 32 [.string x.n, .int .i64 x.i]) : Row w w.heap.size (some ⟨g, 0, none⟩) (erows [x]) := fun j u hu => by
  refine ⟨⟨g, 0, none⟩, rfl, h.lt, ?_⟩
  rw [show (⟨g, 0, none⟩ : Addr).add j = ⟨g, j, none⟩ by simp [Addr.add_lit], h.cell]
  exact hu
theorem ents_one {w : World} {g : Nat} {x : EN} (h : Blk w g 32 [.string x.n, .int .i64 x.i]) : Ents w w.heap.size (.slice (some ⟨g, 0, none⟩) 1 1) [x] :=
  ⟨some ⟨g, 0, none⟩, 1, rfl, Nat.le_refl _, by simp [maxLen], row_one h⟩
theorem erows_put (e : EN) : ∀ (M : List EN) (k : Nat), k < M.length → ((erows M).set (k * 2) (.string e.n)).set (k * 2 + 1) (.int .i64 e.i) = erows (M.set k e)
  | [], k, h => absurd h (by simp)
  | m :: M, 0, _ => rfl
  | m :: M, k + 1, h => by
    have h1 := erows_put e M k (by simpa using h)
    have e1 : erows (m :: M) = .string m.n :: .int .i64 m.i :: erows M := rfl
    rw [e1, show (k + 1) * 2 = k * 2 + 1 + 1 by omega, List.set_cons_succ, List.set_cons_succ, List.set_cons_succ, List.set_cons_succ, h1]
    rfl
def swapE (M : List EN) (x y : Nat) : List EN := (M.set x (atE M y)).set y (atE M x)
theorem atE_elem {M : List EN} {x : Nat} (hx : x < M.length) : atE M x = M[x] := by
  obtain ⟨_, e⟩ := List.getElem?_eq_some_iff.1 (atE_get hx)
  exact e.symm
theorem swapE_perm {M : List EN} {x y : Nat} (hx : x < M.length) (hy : y < M.length) : (swapE M x y).Perm M := by
  unfold swapE
  rw [atE_elem hx, atE_elem hy]
  exact List.set_set_perm hx hy
theorem swapE_length (M : List EN) (x y : Nat) : (swapE M x y).length = M.length := by simp [swapE]
theorem erow_at {M : List EN} {k : Nat} {x : EN} (hk : k < M.length) (hx : x = atE M k) (j : Nat) {u : Value} (hu : (erow x)[j]? = some u) : (erows M)[k * 2 + j]? = some u :=
  erows_get M k j x u (by rw [hx]; exact atE_get hk) hu
theorem dir_ok {n : IN} (h : n.dir) : n.ok := .inr h
theorem dir_bytes {L : List EN} (h : IN.dir ⟨2, 0, L⟩) : (IN.bytes ⟨2, 0, L⟩).length ≤ 224 := by
  have h1 := flat_bytes_le L (good_all h.2.2.2)
  have h2 : L.length ≤ 8 := h.2.2.1
  have e : IN.bytes ⟨2, 0, L⟩ = numB 1 2 ++ (numB 1 L.length ++ L.flatMap ebytes) := rfl
  rw [e]
  simp only [List.length_append, numB_length]
  omega
end Go.Proofs.Ytkpojlnfagonbaa

