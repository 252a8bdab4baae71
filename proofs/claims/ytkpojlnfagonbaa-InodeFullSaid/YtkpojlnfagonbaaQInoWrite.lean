/- What Write of inode answers: an inode's bytes. No condition but that the entries are there. -/
import Derived.Test.YtkpojlnfagonbaaQInoCheck
import Derived.Test.YtkpojlnfagonbaaQCore
import Derived.Test.YtkpojlnfagonbaaQLogK
import Derived.Laws.OwnMore
import Derived.Laws.IdiomStrings
namespace Go.Proofs.Ytkpojlnfagonbaa
open Go.RowKit Go.Shelf
def ebytes (e : EN) : List UInt8 := [e.i.toNat, e.n.size].flatMap (numB (wid 1)) ++ e.n.data.toList
def IN.bytes (n : IN) : List UInt8 := if n.k = 1 then numB 1 1 ++ numB 2 n.z.toNat else numB 1 2 ++ (numB 1 n.es.length ++ n.es.flatMap ebytes)
theorem partTy : OneCell Try.prog 90 42 (.slice none 0 0) 24 := OneCell.mk' Try.underlying90 (by kernel_rfl) rfl
theorem ebytes_length {e : EN} (h : okE e = true) : (ebytes e).length ≤ 14 := by
  unfold okE at h
  simp only [Bool.and_eq_true] at h
  have h1 := (of_decide_eq_true h.1).2.1
  unfold ebytes
  simp only [List.flatMap_cons, List.flatMap_nil, List.append_nil, List.length_append, numB_length]
  show 1 + 1 + _ ≤ 14
  omega
theorem flat_bytes_le : ∀ (es : List EN), (∀ e ∈ es, okE e = true) → (es.flatMap ebytes).length ≤ 14 * es.length
  | [], _ => by simp
  | e :: es, h => by
    have h1 := ebytes_length (h e (by simp))
    have h2 := flat_bytes_le es fun x hx => h x (by simp [hx])
    simp only [List.flatMap_cons, List.length_append, List.length_cons]
    omega
theorem good_all {es : List EN} (h : GoodTo es es.length) : ∀ e ∈ es, okE e = true := fun e he => by
  obtain ⟨j, hj⟩ := List.mem_iff_getElem?.1 he
  have hl := get_lt hj
  have h1 := (h j hl).1
  rw [atE_get hl] at hj
  rw [← Option.some.inj hj]
  exact h1
/-- the bytes of a text, put into memory -/
theorem conv_bytes (w : World) (s : ByteArray) (c : Nat) (hc : s.size ≤ c) (hm : c ≤ maxLen) (t : TypeId) (fr : Nat × Nat) (B : Nat) (hB : w.heap.size < B) :
    Bytes (w.alloc (.cells (bytesRow s c) t fr)) B (.slice (some ⟨w.heap.size, 0, none⟩) s.data.toList.length c) s.data.toList := by
  refine ⟨_, c, rfl, by rw [← Lib.size_eq]; exact hc, hm, fun j u hu => ?_⟩
  refine (Row.new w (bytesRow s c) t fr w.heap.size rfl hB) j u ?_
  have hj := get_lt hu
  unfold bytesRow
  rw [Array.toList_append, List.getElem?_append_left (by simpa [bv] using hj)]
  simpa [bv] using hu
/-- a text's bytes: what the conversion leaves -/
theorem conv_any (s : ByteArray) (hs : s.size ≤ 1000000) (w : World) : ∃ c X, (convert 9 42 (.string s)).run Try.prog w = .ok (.slice (some ⟨w.heap.size, 0, none⟩) s.size c) X ∧ Below w.heap.size w X ∧ BytesS X (fun b => w.heap.size ≤ b ∧ b < X.heap.size) (.slice (some ⟨w.heap.size, 0, none⟩) s.size c) s.data.toList := by
  refine ⟨_, _, run_bytes_of_string w _ _ _ s Try.underlying9 Try.underlying42 Try.underlying5, (Below.refl _ _).drew.alloc (Nat.le_refl _) _, ?_⟩
  have h := conv_bytes w.drew s (grownCap w s.size 0 5) (grownCap_ge _ _ _ _) (grownCap_le_maxLen _ _ _ _ (by simp only [maxLen]; omega)) 5 ((bytesRow s (grownCap w s.size 0 5)).size, (bytesRow s (grownCap w s.size 0 5)).size + 1) (w.heap.size + 1) (Nat.lt_succ_self _)
  obtain ⟨A, c, e, h1, h2, h3⟩ := h
  refine ⟨A, c, by rw [← e, ← Lib.size_eq]; rfl, h1, h2, fun j u hu => ?_⟩
  obtain ⟨a, ea, hb, hc⟩ := h3 j u hu
  cases e
  cases ea
  exact ⟨_, rfl, ⟨Nat.le_refl _, by simp⟩, hc⟩
theorem Bytes.toS {w : World} {B : Nat} {v : Value} {l : List UInt8} (h : Bytes w B v l) : BytesS w (fun b => b < B) v l := by
  obtain ⟨A, c, e, h1, h2, h3⟩ := h
  exact ⟨A, c, e, h1, h2, h3⟩
theorem Each.toS {w : World} {B : Nat} {vs : List Value} {L : List (List UInt8)} (h : Each w B vs L) : EachS w (fun b => b < B) vs L :=
  ⟨h.1, fun i v hv => by obtain ⟨l, hl, hb⟩ := h.2 i v hv; exact ⟨l, hl, hb.toS⟩⟩
theorem World.alloc_heap_old {w : World} {o : Obj} {k : Nat} (h : k < w.heap.size) : (w.alloc o).heap[k]? = w.heap[k]? := ((Below.refl w.heap.size w).alloc (Nat.le_refl _) o).block k h
theorem each_next {wr X3 X4 w9 : World} {v6 v9 x y : Value} {vs : List Value} {L : List (List UInt8)} {p q : List UInt8} {B8 : Nat} (hE : EachS wr (fun b => b < wr.heap.size ∧ v6.ownBlock ≠ some b) vs L) (hW : Below wr.heap.size wr X3)
    (hX : BytesS X3 (fun b => B8 ≤ b ∧ b < X3.heap.size) x p) (hY : BytesS X3 (fun b => B8 ≤ b ∧ b < X3.heap.size) y q) (hv6 : ∀ k, v6.ownBlock = some k → k < wr.heap.size) (h8 : wr.heap.size ≤ B8) (h4 : Below X3.heap.size X3 X4)
    (g : X4.grownBy w9 v6.ownBlock) (e : v9.ownBlock = v6.ownBlock ∨ v9.ownBlock = some X4.heap.size) : EachS w9 (fun b => b < w9.heap.size ∧ v9.ownBlock ≠ some b) (vs ++ [x, y]) (L ++ [p, q]) := by
  have new : ∀ b, B8 ≤ b ∧ b < X3.heap.size → (b < X3.heap.size ∧ v6.ownBlock ≠ some b) ∧ X3.heap[b]? = X3.heap[b]? := fun b hb => ⟨⟨hb.2, fun e => by have := hv6 b e; omega⟩, rfl⟩
  have h1 := ((hE.keep (w' := X3) (S' := fun b => b < X3.heap.size ∧ v6.ownBlock ≠ some b) fun b hb => ⟨⟨Nat.lt_of_lt_of_le hb.1 hW.size, hb.2⟩, hW.block b hb.1⟩).snoc (hX.keep new)).snoc (hY.keep new)
  rw [show vs ++ [x] ++ [y] = vs ++ [x, y] by simp, show L ++ [p] ++ [q] = L ++ [p, q] by simp] at h1
  refine h1.keep fun b hb => ⟨⟨Nat.lt_of_lt_of_le hb.1 (Nat.le_trans h4.size g.size), fun e' => ?_⟩, ?_⟩
  · rcases e with e | e
    · rw [e] at e'
      exact hb.2 e'
    · rw [e] at e'
      have := Option.some.inj e'
      have := h4.size
      omega
  · exact (g.block b (Nat.lt_of_lt_of_le hb.1 h4.size) (fun e' => hb.2 e'.symm)).trans (h4.block b hb.1)
theorem step_append_vals {P : Program} {w : World} {base : Nat} {t e : TypeId} {z : Value} {bytes : Nat} {v : Value} {xs : List Value} {ops : Array Oper} {o : Oper} {a : Act} {K : Act → World → Prop} {Q : Exit → Act → World → Prop} {E : Prop} (hT : OneCell P t e z bytes) (hgd : Region.wanted o (yielded ops a.tmps) = true) (s x : Operand)
    (ho : o.op = .call { callee := .builtin .append, args := #[s, x], argTypes := #[t, t] })
    (n : Nat) (hs : a.eval s = v) (hown : w.ownsRow base e 1 v n xs) (B : Nat) (A : Option Addr) (c : Nat) (news : List Value) (m : Nat) (hm : news.length = m) (hx : a.eval x = .slice A m c) (hr : Row w B A news)
    (h1 : ∀ u ∈ news, u.oneCell' = true) (hb : (n + m) * bytes ≤ 140737488355328) (h63 : n + m ≤ maxLen) (hbase : base ≤ w.heap.size) (k : Nat) (hk : n + m = k)
    (h : ∀ A' c' w', w'.ownsRow base e 1 (.slice A' k c') k (xs ++ news) → w.grownBy w' v.ownBlock → (.slice A' k c' : Value).ownBlock = v.ownBlock ∨ (.slice A' k c' : Value).ownBlock = some w.heap.size → K (a.put o.dst (.slice A' k c')) w') :
    if Region.wanted o (yielded ops a.tmps) = true then Oper.wp P o a w K Q else E := by
  rw [if_pos hgd]
  obtain ⟨v', w', hrun, h2, h3, h4⟩ := run_append_row hT o.type n hown B A c news m hm hr h1 h63 hb hbase
  obtain ⟨A', c', rfl, _, _⟩ := ownsRow_shape h2
  subst hk
  unfold Oper.wp execOp
  simp only [ho, resolve, invoke, builtin, Sem.run_bind, Sem.run_pure, Result.andThen_ok, List.map_toArray, List.map_cons, List.map_nil, hs, hx, hrun]
  exact h A' c' w' h2 h3 h4
theorem cells_kept {w w' : World} {row : Option Nat} (g : w.grownBy w' row) {b : Nat} (hb : b < w.heap.size) (hne : some b ≠ row) (i : Nat) : w'.cell? ⟨b, i, none⟩ = w.cell? ⟨b, i, none⟩ :=
  World.cell?_of_block (g.block b hb hne)
theorem two_len (a b : Nat) : ([a, b].flatMap (numB (wid 1))).length = 2 := by simp only [List.flatMap_cons, List.flatMap_nil, List.append_nil, List.length_append, numB_length]; rfl
theorem fresh_keep {B : Nat} {w2 w3 : World} {x b : Nat} (h : x ≤ b ∧ b < w2.heap.size) (hB : B ≤ x) (h2 : Below w2.heap.size w2 w3) : (B ≤ b ∧ b < w3.heap.size) ∧ w3.heap[b]? = w2.heap[b]? :=
  ⟨⟨Nat.le_trans hB h.1, Nat.lt_of_lt_of_le h.2 h2.size⟩, h2.block b h.2⟩
theorem fresh_keep2 {B : Nat} {w1 w2 w3 : World} {x b : Nat} (h : x ≤ b ∧ b < w1.heap.size) (hB : B ≤ x) (h1 : Below w1.heap.size w1 w2) (h2 : Below w2.heap.size w2 w3) : (B ≤ b ∧ b < w3.heap.size) ∧ w3.heap[b]? = w1.heap[b]? :=
  ⟨⟨Nat.le_trans hB h.1, Nat.lt_of_lt_of_le h.2 (Nat.le_trans h1.size h2.size)⟩, (h2.block b (Nat.lt_of_lt_of_le h.2 h1.size)).trans (h1.block b h.2)⟩
set_option maxRecDepth 100000 in
set_option maxHeartbeats 8000000 in
theorem write_no (n : IN) (v : Value) (w : World) (hv : Ents w w.heap.size v n.es) (h : ¬ n.ok) :
    Calls Try.prog 19 #[.agg #[.int .i64 n.k, .int .i64 n.z, v]] w fun e w' => e = .returned (.tuple #[.slice none 0 0, .int .i64 1]) ∧ Below w.heap.size w w' := by
  obtain ⟨A, c, rfl, hc, hm⟩ := hv.shape
  have HB := Lib.hid ((Below.refl w.heap.size w).alloc (Nat.le_refl _) (.cells #[.int .i64 n.k, .int .i64 n.z, .slice A n.es.length c] 24))
  have KC := Lib.hid (check_any n _ _ (hv.after HB.out))
  rw [if_neg h] at KC
  obtain ⟨W, hW⟩ : ∃ W, W = w.alloc (.cells #[.int .i64 n.k, .int .i64 n.z, .slice A n.es.length c] 24) := ⟨_, rfl⟩
  clear hv h
  go_enter Try.func19, Try.ntmps19
  rw [← hW] at HB KC
  go_wp2_with fail
  rw [← hW]
  refine KC.out.mono ?_
  rintro e w1 ⟨rfl, h1⟩
  go_wp2_with fail
  go_ret2
  exact ⟨rfl, HB.out.trans (h1.mono HB.out.size)⟩
set_option maxRecDepth 100000 in
set_option maxHeartbeats 8000000 in
theorem write_file (n : IN) (v : Value) (w : World) (hv : Ents w w.heap.size v n.es) (h : n.file) :
    Calls Try.prog 19 #[.agg #[.int .i64 n.k, .int .i64 n.z, v]] w fun e w' => ∃ g c, e = .returned (.tuple #[.slice (some ⟨g, 0, none⟩) n.bytes.length c, .int .i64 0]) ∧ Own 5 w' w.heap.size (.slice (some ⟨g, 0, none⟩) n.bytes.length c) n.bytes ∧ Below w.heap.size w w' := by
  obtain ⟨A, c, rfl, hc, hm⟩ := hv.shape
  have HB := Lib.hid ((Below.refl w.heap.size w).alloc (Nat.le_refl _) (.cells #[.int .i64 n.k, .int .i64 n.z, .slice A n.es.length c] 24))
  have KC := Lib.hid (check_any n _ _ (hv.after HB.out))
  rw [if_pos (.inl h)] at KC
  have BX := Lib.hid (fun w' => box3 w (.int .i64 n.k) (.int .i64 n.z) (.slice A n.es.length c) 24 (w' := w'))
  obtain ⟨W, hW⟩ : ∃ W, W = w.alloc (.cells #[.int .i64 n.k, .int .i64 n.z, .slice A n.es.length c] 24) := ⟨_, rfl⟩
  obtain ⟨k, z, es⟩ := n
  obtain ⟨h1, h2, h3, h4⟩ := h
  simp only at h1 h2 h3 h4
  subst h1
  obtain ⟨q, rfl⟩ : ∃ q : Nat, z = q := ⟨z.toNat, by omega⟩
  have hnb : IN.bytes ⟨1, q, es⟩ = numB 1 1 ++ numB 2 q := by unfold IN.bytes; rw [if_pos rfl]; rfl
  rw [hnb]
  have hnl : (numB 1 1 ++ numB 2 q).length = 3 := by rw [List.length_append, numB_length, numB_length]
  have k1 : ∀ w : World, Calls Try.prog 45 #[.int .i64 1, .int .u64 1] w fun e w' => ∃ A c, e = .returned (.slice A 1 c) ∧ Own 5 w' w.heap.size (.slice A 1 c) (numB 1 1) ∧ Below w.heap.size w w' := fun w => num_any 1 1 w
  have k2 : ∀ w : World, Calls Try.prog 45 #[.int .i64 2, .int .u64 (q : Int)] w fun e w' => ∃ A c, e = .returned (.slice A 2 c) ∧ Own 5 w' w.heap.size (.slice A 2 c) (numB 2 q) ∧ Below w.heap.size w w' := fun w => num_any 2 q w
  have K1 := Lib.hid k1
  have K2 := Lib.hid k2
  obtain ⟨NB, hNB⟩ : ∃ NB, numB 1 1 ++ numB 2 q = NB := ⟨_, rfl⟩
  rw [hNB] at hnl ⊢
  rw [hnl]
  have HNB := Lib.hid hNB
  have HNL := Lib.hid hnl
  simp only at HB KC BX hW hc
  clear hv h2 h4 hnb hnl k1 k2 hNB
  go_enter Try.func19, Try.ntmps19
  rw [← hW] at HB KC BX
  go_wp2_with fail
  rw [← hW]
  obtain ⟨g1, hg1⟩ : ∃ g1, w.heap.size = g1 := ⟨_, rfl⟩
  rw [hg1] at BX ⊢
  clear hW hg1
  refine KC.out.mono ?_
  clear KC
  rintro e w1 ⟨rfl, b1⟩
  have c1 := BX.out _ b1
  obtain ⟨c11, c12, c13⟩ := c1
  have T1 := Lib.hid b1
  go_wp2_with fail
  refine (K1.out _).mono ?_
  rintro e w2 ⟨A2, c2, rfl, O2, b2⟩
  have T2 := Lib.hid (T1.out.trans (b2.mono T1.out.size))
  have P2 := Lib.hid (O2.bytes (by rw [numB_length]; simp [maxLen]))
  obtain ⟨c21, c22, c23⟩ := BX.out _ T2.out
  clear O2 b2 b1 c11 c12 c13 K1
  go_wp2_with fail
  refine (K2.out _).mono ?_
  rintro e w3 ⟨A3, c3, rfl, O3, b3⟩
  have T3 := Lib.hid (T2.out.trans (b3.mono T2.out.size))
  have P3 := Lib.hid (O3.bytes (by rw [numB_length]; simp [maxLen]))
  have P2b := Lib.hid ((P2.out.below b3).more b3.size)
  have KJ := Lib.hid (join_any (.slice (some ⟨w3.heap.size, 0, none⟩) 2 2) [numB 1 1, numB 2 q] (w3.alloc (.cells #[.slice A2 1 c2, .slice A3 2 c3] 42)) (w3.heap.size + 1) (by simp) (Parts.new (Each.cons P2b.out (Each.cons P3.out Each.nil)) (Nat.le_refl _) (by simp [maxLen]) 2 rfl _ rfl _ (Nat.lt_succ_self _) _ _ rfl) (by simp [numB_length]))
  have HNB2 : Hid ([numB 1 1, numB 2 q].flatten = NB) := Lib.hid (by rw [← HNB.out]; simp)
  rw [HNB2.out, HNL.out] at KJ
  have T4 := Lib.hid (T3.out.alloc T3.out.size (.cells #[.slice A2 1 c2, .slice A3 2 c3] 42))
  have HS := Lib.hid (Nat.le_trans HB.out.size T4.out.size)
  clear O3 b3 P2 P2b P3 HNB2 K2 c21 c22 c23
  go_wp2_with fail
  refine KJ.out.mono ?_
  rintro e w5 ⟨g5, c5, rfl, hg5, O5, b5⟩
  go_wp2_with fail
  go_ret2
  have HT := T4.out.trans (b5.mono T4.out.size)
  exact ⟨_, _, rfl, O5.lower HS.out, HB.out.trans (HT.mono HB.out.size)⟩
set_option maxRecDepth 100000 in
set_option maxHeartbeats 16000000 in
theorem write_dir (n : IN) (v : Value) (w : World) (hv : Ents w w.heap.size v n.es) (h : n.dir) :
    Calls Try.prog 19 #[.agg #[.int .i64 n.k, .int .i64 n.z, v]] w fun e w' => ∃ g c, e = .returned (.tuple #[.slice (some ⟨g, 0, none⟩) n.bytes.length c, .int .i64 0]) ∧ Own 5 w' w.heap.size (.slice (some ⟨g, 0, none⟩) n.bytes.length c) n.bytes ∧ Below w.heap.size w w' := by
  obtain ⟨A, c, rfl, hc, hm⟩ := hv.shape
  have HB := Lib.hid ((Below.refl w.heap.size w).alloc (Nat.le_refl _) (.cells #[.int .i64 n.k, .int .i64 n.z, .slice A n.es.length c] 24))
  have HV := Lib.hid (hv.after HB.out)
  have KC := Lib.hid (check_any n _ _ HV.out)
  rw [if_pos (.inr h)] at KC
  have BX := Lib.hid (fun w' => box3 w (.int .i64 n.k) (.int .i64 n.z) (.slice A n.es.length c) 24 (w' := w'))
  obtain ⟨W, hW⟩ : ∃ W, W = w.alloc (.cells #[.int .i64 n.k, .int .i64 n.z, .slice A n.es.length c] 24) := ⟨_, rfl⟩
  obtain ⟨k, z, es⟩ := n
  obtain ⟨h1, h2, h3, h4⟩ := h
  simp only at h1 h2 h3 h4
  subst h1
  subst h2
  obtain ⟨N, hN⟩ : ∃ N, es.length = N := ⟨_, rfl⟩
  have hnb : IN.bytes ⟨2, 0, es⟩ = numB 1 2 ++ (numB 1 N ++ es.flatMap ebytes) := by unfold IN.bytes; rw [if_neg (by simp), ← hN]
  rw [hnb]
  have hle : (numB 1 2 ++ (numB 1 N ++ es.flatMap ebytes)).length ≤ 200 := by
    have := flat_bytes_le es (good_all h4)
    simp only [List.length_append, numB_length]
    omega
  have HGA := Lib.hid (good_all h4)
  have k1 : ∀ w : World, Calls Try.prog 45 #[.int .i64 1, .int .u64 2] w fun e w' => ∃ A c, e = .returned (.slice A 1 c) ∧ Own 5 w' w.heap.size (.slice A 1 c) (numB 1 2) ∧ Below w.heap.size w w' := fun w => num_any 1 2 w
  have k2 : ∀ w : World, Calls Try.prog 45 #[.int .i64 1, .int .u64 (N : Int)] w fun e w' => ∃ A c, e = .returned (.slice A 1 c) ∧ Own 5 w' w.heap.size (.slice A 1 c) (numB 1 N) ∧ Below w.heap.size w w' := fun w => num_any 1 N w
  have K1 := Lib.hid k1
  have K2 := Lib.hid k2
  have hN8 : N ≤ 8 := by omega
  obtain ⟨NB, hNB⟩ : ∃ NB, numB 1 2 ++ (numB 1 N ++ es.flatMap ebytes) = NB := ⟨_, rfl⟩
  rw [hNB] at hle ⊢
  have HNB := Lib.hid hNB
  have HN := Lib.hid hN
  simp only at HB KC BX hW hc HV
  rw [hN] at HB KC BX hW hc HV
  clear hv h4 h3 hnb k1 k2 hNB
  rw [hN]
  clear hN
  go_enter Try.func19, Try.ntmps19
  rw [← hW] at HB KC BX HV
  go_wp2_with fail
  rw [← hW]
  obtain ⟨g1, hg1⟩ : ∃ g1, w.heap.size = g1 := ⟨_, rfl⟩
  rw [hg1] at BX ⊢
  clear hW hg1
  refine KC.out.mono ?_
  clear KC
  rintro e w1 ⟨rfl, b1⟩
  have c1 := BX.out _ b1
  obtain ⟨c11, c12, c13⟩ := c1
  have T1 := Lib.hid b1
  go_wp2_with fail
  refine (K1.out _).mono ?_
  rintro e w2 ⟨A2, c2, rfl, O2, b2⟩
  have T2 := Lib.hid (T1.out.trans (b2.mono T1.out.size))
  have P2 := Lib.hid (O2.bytes (by rw [numB_length]; simp [maxLen]))
  obtain ⟨c21, c22, c23⟩ := BX.out _ T2.out
  clear O2 b2 b1 c11 c12 c13 K1
  go_wp2_with fail
  refine (K2.out _).mono ?_
  rintro e w3 ⟨A3, c3, rfl, O3, b3⟩
  have T3 := Lib.hid (T2.out.trans (b3.mono T2.out.size))
  have P3 := Lib.hid (O3.bytes (by rw [numB_length]; simp [maxLen]))
  have P2b := Lib.hid ((P2.out.below b3).more b3.size)
  have hE3 := Each.cons P2b.out (Each.cons P3.out Each.nil)
  have T4 := Lib.hid (T3.out.alloc T3.out.size (.cells #[.slice A2 1 c2, .slice A3 1 c3] 42))
  have HO4 : Hid ((w3.alloc (.cells #[.slice A2 1 c2, .slice A3 1 c3] 42)).ownsRow W.heap.size 42 1 (.slice (some ⟨w3.heap.size, 0, none⟩) 2 2) 2 [.slice A2 1 c2, .slice A3 1 c3]) := Lib.hid (World.ownsRow_lit w3 #[.slice A2 1 c2, .slice A3 1 c3] 2 T3.out.size (by simp [maxLen]) rfl)
  have HE4 : Hid (EachS (w3.alloc (.cells #[.slice A2 1 c2, .slice A3 1 c3] 42)) (fun b => b < (w3.alloc (.cells #[.slice A2 1 c2, .slice A3 1 c3] 42)).heap.size ∧ (.slice (some ⟨w3.heap.size, 0, none⟩) 2 2 : Value).ownBlock ≠ some b) [.slice A2 1 c2, .slice A3 1 c3] [numB 1 2, numB 1 N]) := Lib.hid (by
    have h := hE3.toS.keep (w' := w3.alloc (.cells #[.slice A2 1 c2, .slice A3 1 c3] 42)) (S' := fun b => b < (w3.alloc (.cells #[.slice A2 1 c2, .slice A3 1 c3] 42)).heap.size ∧ (.slice (some ⟨w3.heap.size, 0, none⟩) 2 2 : Value).ownBlock ≠ some b) (fun k hk => ⟨⟨by simp; omega, fun e => by have := Option.some.inj e; simp only at this; omega⟩, by rw [World.alloc_heap_old hk]⟩)
    exact h)
  obtain ⟨c31, c32, c33⟩ := BX.out _ T4.out
  have HZ : Hid ([numB 1 2, numB 1 N].flatten = numB 1 2 ++ (numB 1 N ++ (es.take 0).flatMap ebytes)) := Lib.hid (by simp)
  have HVW : Hid (Ents W W.heap.size (.slice A N c) es) := HV
  clear O3 b3 P2 P2b P3 K2 c21 c22 c23 hE3
  go_wp2_with fail
  go_loopg [6, 8, 38] N (fun g s6 _ i wx => ∃ (k : Nat) (A6 : Option Addr) (m c6 : Nat) (vs : List Value) (L : List (List UInt8)), k + g = N ∧ i = .int .i64 k ∧ s6 = .slice A6 m c6 ∧ Hid (m = 2 + 2 * k) ∧ Hid (wx.ownsRow W.heap.size 42 1 (.slice A6 m c6) m vs) ∧ Hid (EachS wx (fun b => b < wx.heap.size ∧ (.slice A6 m c6 : Value).ownBlock ≠ some b) vs L) ∧ Hid (L.flatten = numB 1 2 ++ (numB 1 N ++ (es.take k).flatMap ebytes)) ∧ Hid (Below W.heap.size W wx))
  case atStart => exact ⟨0, _, 2, 2, _, _, by omega, rfl, rfl, Lib.hid rfl, HO4, HE4, HZ, T4⟩
  case round =>
    obtain ⟨k, A6, m, c6, vs, L, hk, rfl, rfl, hm6, hO, hE, hL, hB⟩ := hrel
    clear HO4 HE4 HZ T4 c31 c32 c33
    cases gk with
    | zero =>
      obtain rfl : k = N := by omega
      have i4 : ¬ (k : Int) < (k : Int) := by omega
      have hfl : L.flatten = NB := by
        rw [hL.out, ← HNB.out, List.take_of_length_le (by rw [HN.out]; exact Nat.le_refl _)]
      obtain ⟨_, _, e1, _, _⟩ := ownsRow_shape hO.out
      have hvl := hO.out.1
      rw [Nat.mul_one] at hvl
      have hm100 : m ≤ 100 := by have := hm6.out; omega
      have hP : Parts wr wr.heap.size (.slice A6 m c6) L := ⟨A6, c6, vs, by rw [hvl], ownsRow_row hO.out, hE.out.each fun b hb => hb.1, by rw [hvl]; simp only [maxLen]; omega⟩
      have KJ := Lib.hid (join_any (.slice A6 m c6) L wr wr.heap.size (Nat.le_refl _) hP (by rw [hfl]; omega))
      rw [hfl] at KJ
      have HS := Lib.hid (Nat.le_trans HB.out.size hB.out.size)
      have HBB := Lib.hid (HB.out.trans (hB.out.mono HB.out.size))
      clear hfl hvl hP hm100 e1
      go_wp2_with fail
      refine KJ.out.mono ?_
      rintro e w9 ⟨g9, c9, rfl, hg9, O9, b9⟩
      go_wp2_with fail
      go_ret2
      exact ⟨_, _, rfl, O9.lower HS.out, HBB.out.trans (b9.mono HBB.out.size)⟩
    | succ g =>
      have hlt : k < es.length := by rw [HN.out]; omega
      have i4 : (k : Int) < (N : Int) := by omega
      obtain ⟨a, rfl, hab, hck⟩ := (HVW.out.below hB.out).elem (atE_get hlt)
      obtain ⟨E, hE0⟩ : ∃ E, atE es k = E := ⟨_, rfl⟩
      rw [hE0] at hck
      have HE0 := Lib.hid hE0
      have HCK2 : Hid (∀ j u, ([.string E.n, .int .i64 E.i] : List Value)[j]? = some u → wr.cell? ((a.add (k * 2)).add j) = some u) := Lib.hid hck
      have HOK : Hid (okE E = true) := Lib.hid (by rw [← hE0]; exact HGA.out _ (List.mem_of_getElem? (atE_get hlt)))
      clear hck hE0
      go_wp2_with (with_reducible refine wpl_cells (q := a.add (k * 2)) (row := [.string E.n, .int .i64 E.i]) aggE sizeE (.tmp 40) rfl rfl rfl rfl HCK2.out ?_)
      obtain ⟨en, ez⟩ := E
      obtain ⟨ei, rfl, hei⟩ : ∃ ei : Nat, ez = ei ∧ ei ≤ 24 := by
        have h := HOK.out
        unfold okE at h
        simp only [Bool.and_eq_true, decide_eq_true_eq] at h
        exact ⟨ez.toNat, by omega, by omega⟩
      have hen : en.size ≤ 12 := by
        have h := HOK.out
        unfold okE at h
        simp only [Bool.and_eq_true] at h
        have h1 := (of_decide_eq_true h.1).2.1
        rw [Lib.size_eq]
        exact h1
      simp only
      have HB8 := Lib.hid (hB.out.alloc hB.out.size (.cells #[.string en, .int .i64 (ei : Int)] 32))
      have HBr := Lib.hid ((Below.refl wr.heap.size wr).alloc (Nat.le_refl _) (.cells #[.string en, .int .i64 (ei : Int)] 32))
      have B8 := Lib.hid (fun w' => box2 wr (.string en) (.int .i64 (ei : Int)) 32 (w' := w'))
      have HO8 := Lib.hid (World.ownsRow.alloc hO.out (.cells #[.string en, .int .i64 (ei : Int)] 32))
      obtain ⟨W8, hW8⟩ : ∃ W8, W8 = wr.alloc (.cells #[.string en, .int .i64 (ei : Int)] 32) := ⟨_, rfl⟩
      rw [← hW8] at HB8 HBr B8 HO8 ⊢
      obtain ⟨g8, hg8⟩ : ∃ g8, wr.heap.size = g8 := ⟨_, rfl⟩
      have HG8 := Lib.hid hg8
      rw [hg8] at B8 ⊢
      clear hW8 hg8 HCK2
      have T1 := Lib.hid (Below.refl W8.heap.size W8).drew
      have HW8 := Lib.hid (Below.refl W8.heap.size W8)
      have S1 := B8.out _ T1.out
      have u1 : IntKind.u64.wrap (ei : Int) = (ei : Int) := by rw [IntKind.wrap_u64]; omega
      have u2 : IntKind.u64.wrap (en.size : Int) = (en.size : Int) := by rw [IntKind.wrap_u64]; omega
      have KC := Lib.hid (conv_any en (by omega))
      have KU := Lib.hid (fun w B A hB hr => nums_any 1 A [ei, en.size] 2 w B hB hr (by simp))
      have HV6 : Hid (∀ k, (.slice A6 m c6 : Value).ownBlock = some k → k < wr.heap.size) := Lib.hid fun k hk => (World.ownsRow.lt hO.out k hk).2
      have HM2 : Hid (m + 2 ≤ 100) := Lib.hid (by have := hm6.out; omega)
      refine wp_region_held_drew (S := (fun w' => w'.cell? ⟨g8, 0, none⟩ = some (.string en) ∧ w'.cell? ⟨g8, 1, none⟩ = some (.int .i64 (ei : Int)))) (by kernel_rfl) S1 (fun _ => ?_)
      refine wpAnyH_take (i := 0) (v := .slice A6 m c6) rfl (by kernel_rfl) (by kernel_rfl) (by kernel_rfl) (fun _ _ _ h => h) (Or.inl ⟨by kernel_rfl, fun w _ => by go_simp⟩) S1 ?_
      simp only [Act.put, List.getElem_toArray, List.getElem_cons_zero, List.setIfInBounds_toArray, List.set_cons_zero, List.set_cons_succ]
      refine wpAnyH_take (i := 1) (v := .pointer (some ⟨g8, 1, none⟩)) rfl (by kernel_rfl) (by kernel_rfl) (by kernel_rfl) (fun _ _ _ h => h) (Or.inl ⟨by kernel_rfl, fun w _ => by go_simp⟩) S1 ?_
      simp only [Act.put, List.getElem_toArray, List.getElem_cons_zero, List.getElem_cons_succ, List.setIfInBounds_toArray, List.set_cons_zero, List.set_cons_succ]
      refine wpAnyH_take (i := 2) (v := .int .i64 (ei : Int)) rfl (by kernel_rfl) (by kernel_rfl) (by kernel_rfl) (fun _ _ _ h => h) (yields_one (ty := 3) (fun w => by kernel_rfl) (.tmp 43) (by kernel_rfl) (by kernel_rfl) (by kernel_rfl) (fun w h => h.2)) S1 ?_
      simp only [Act.put, List.getElem_toArray, List.getElem_cons_zero, List.getElem_cons_succ, List.setIfInBounds_toArray, List.set_cons_zero, List.set_cons_succ]
      refine wpAnyH_take (i := 3) (v := .int .u64 (ei : Int)) rfl (by kernel_rfl) (by kernel_rfl) (by kernel_rfl) (fun _ _ _ h => h) (Or.inl ⟨by kernel_rfl, fun w _ => by go_simp⟩) S1 ?_
      simp only [Act.put, List.getElem_toArray, List.getElem_cons_zero, List.getElem_cons_succ, List.setIfInBounds_toArray, List.set_cons_zero, List.set_cons_succ]
      refine wpAnyH_take (i := 4) (v := .pointer (some ⟨g8, 0, none⟩)) rfl (by kernel_rfl) (by kernel_rfl) (by kernel_rfl) (fun _ _ _ h => h) (Or.inl ⟨by kernel_rfl, fun w _ => by go_simp⟩) S1 ?_
      simp only [Act.put, List.getElem_toArray, List.getElem_cons_zero, List.getElem_cons_succ, List.setIfInBounds_toArray, List.set_cons_zero, List.set_cons_succ]
      refine wpAnyH_take (i := 5) (v := .string en) rfl (by kernel_rfl) (by kernel_rfl) (by kernel_rfl) (fun _ _ _ h => h) (yields_one (ty := 9) (fun w => by kernel_rfl) (.tmp 46) (by kernel_rfl) (by kernel_rfl) (by kernel_rfl) (fun w h => h.1)) S1 ?_
      simp only [Act.put, List.getElem_toArray, List.getElem_cons_zero, List.getElem_cons_succ, List.setIfInBounds_toArray, List.set_cons_zero, List.set_cons_succ]
      refine wpAnyH_take (i := 6) (v := .int .i64 (en.size : Int)) rfl (by kernel_rfl) (by kernel_rfl) (by kernel_rfl) (fun _ _ _ h => h) (Or.inl ⟨by kernel_rfl, fun w _ => by go_simp⟩) S1 ?_
      simp only [Act.put, List.getElem_toArray, List.getElem_cons_zero, List.getElem_cons_succ, List.setIfInBounds_toArray, List.set_cons_zero, List.set_cons_succ]
      refine wpAnyH_take (i := 7) (v := .int .u64 (en.size : Int)) rfl (by kernel_rfl) (by kernel_rfl) (by kernel_rfl) (fun _ _ _ h => h) (Or.inl ⟨by kernel_rfl, fun w _ => by go_simp⟩) S1 ?_
      simp only [Act.put, List.getElem_toArray, List.getElem_cons_zero, List.getElem_cons_succ, List.setIfInBounds_toArray, List.set_cons_zero, List.set_cons_succ]
      refine wpAnyH_take (i := 10) (v := .pointer (some ⟨g8, 0, none⟩)) rfl (by kernel_rfl) (by kernel_rfl) (by kernel_rfl) (fun _ _ _ h => h) (Or.inl ⟨by kernel_rfl, fun w _ => by go_simp⟩) S1 ?_
      simp only [Act.put, List.getElem_toArray, List.getElem_cons_zero, List.getElem_cons_succ, List.setIfInBounds_toArray, List.set_cons_zero, List.set_cons_succ]
      refine wpAnyH_take (i := 11) (v := .string en) rfl (by kernel_rfl) (by kernel_rfl) (by kernel_rfl) (fun _ _ _ h => h) (yields_one (ty := 9) (fun w => by kernel_rfl) (.tmp 52) (by kernel_rfl) (by kernel_rfl) (by kernel_rfl) (fun w h => h.1)) S1 ?_
      simp only [Act.put, List.getElem_toArray, List.getElem_cons_zero, List.getElem_cons_succ, List.setIfInBounds_toArray, List.set_cons_zero, List.set_cons_succ]
      refine wpAnyH_ready (rs := [8, 12]) (by kernel_rfl) (by simp) (AllReadyH.cons rfl (fun K hK => ?_) (AllReadyH.cons rfl (fun K hK => ?_) AllReadyH.nil))
      · go_simp
        have TX1 := Lib.hid ((HW8.out.alloc HW8.out.size (.cells #[.int .u64 (ei : Int), .int .u64 (en.size : Int)] 88)).drew)
        have HRN : Hid (Row (W8.alloc (.cells #[.int .u64 (ei : Int), .int .u64 (en.size : Int)] 88)).drew (W8.heap.size + 1) (some ⟨W8.heap.size, 0, none⟩) (uv [ei, en.size])) := Lib.hid (Row.new W8 #[.int .u64 (ei : Int), .int .u64 (en.size : Int)] 88 (0, 0) W8.heap.size rfl (Nat.lt_succ_self _))
        have HRS : Hid (W8.heap.size + 1 ≤ (W8.alloc (.cells #[.int .u64 (ei : Int), .int .u64 (en.size : Int)] 88)).drew.heap.size) := Lib.hid (by simp)
        have HB50 : Hid (Below W8.heap.size W8 (W8.alloc (.cells #[.int .u64 (ei : Int), .int .u64 (en.size : Int)] 88)).drew) := Lib.hid ((Below.refl _ _).alloc (Nat.le_refl _) _).drew
        have S50 := B8.out _ TX1.out
        obtain ⟨X1, hX1⟩ : ∃ X1, X1 = (W8.alloc (.cells #[.int .u64 (ei : Int), .int .u64 (en.size : Int)] 88)).drew := ⟨_, rfl⟩
        rw [← hX1] at TX1 HRN HRS S50 HB50 ⊢
        obtain ⟨g50, hg50⟩ : ∃ g50, W8.heap.size = g50 := ⟨_, rfl⟩
        rw [hg50] at HRN HRS ⊢
        have HG50 := Lib.hid hg50
        clear hX1 hg50
        refine hK _ _ S50 (fun _ => ?_)
        clear hK K
        refine wpAnyH_ready (rs := [9, 12]) (by kernel_rfl) (by simp) (AllReadyH.cons rfl (fun K hK => ?_) (AllReadyH.cons rfl (fun K hK => ?_) AllReadyH.nil))
        · have HRS9 := HRS
          go_simp
          refine (KU.out X1 _ _ HRS9.out HRN.out).mono ?_
          rintro e X2 ⟨A51, n51, c51, rfl, hn51, O51, b51⟩
          have TX2 := Lib.hid (TX1.out.trans (b51.mono TX1.out.size))
          have HB51 := Lib.hid b51
          have HO51 := Lib.hid O51
          have HN51 := Lib.hid hn51
          have S51 := B8.out _ TX2.out
          clear b51 O51 hn51
          refine hK _ _ S51 (fun _ => ?_)
          clear hK K
          refine wpAnyH_ready (rs := [12]) (by kernel_rfl) (by simp) (AllReadyH.cons rfl (fun K hK => ?_) AllReadyH.nil)
          obtain ⟨c54, X3, hrun, hb54, hs54⟩ := KC.out X2
          have TX3 := Lib.hid (TX2.out.trans (hb54.mono TX2.out.size))
          have HB54 := Lib.hid hb54
          have HS54 := Lib.hid hs54
          have S54 := B8.out _ TX3.out
          clear hb54 hs54
          go_simp
          clear hrun
          refine hK _ _ S54 (fun _ => ?_)
          clear hK K
          have E51 := Lib.hid ((HO51.out.bytesS (by rw [two_len]; simp [maxLen])).keep (w' := X3) (S' := fun b => W8.heap.size ≤ b ∧ b < X3.heap.size) (fun b hb => fresh_keep (HO51.out.lt b hb) TX1.out.size HB54.out))
          have E54 := Lib.hid (HS54.out.keep (w' := X3) (S' := fun b => W8.heap.size ≤ b ∧ b < X3.heap.size) (fun b hb => ⟨⟨Nat.le_trans TX2.out.size hb.1, hb.2⟩, rfl⟩))
          refine wpAnyH_ready (rs := [13]) (by kernel_rfl) (by simp) (AllReadyH.cons rfl (fun K hK => ?_) AllReadyH.nil)
          go_simp
          obtain ⟨g54, hg54⟩ : ∃ g54, X2.heap.size = g54 := ⟨_, rfl⟩
          have E54 : Hid (BytesS X3 (fun b => W8.heap.size ≤ b ∧ b < X3.heap.size) (.slice (some ⟨g54, 0, none⟩) en.size c54) en.data.toList) := Lib.hid (by rw [← hg54]; exact E54.out)
          rw [hg54]
          clear hg54
          have TX4 := Lib.hid (TX3.out.alloc TX3.out.size (.cells #[.slice A51 n51 c51, .slice (some ⟨g54, 0, none⟩) en.size c54] 42))
          have H34 := Lib.hid ((Below.refl X3.heap.size X3).alloc (Nat.le_refl _) (.cells #[.slice A51 n51 c51, .slice (some ⟨g54, 0, none⟩) en.size c54] 42))
          have R55 : Hid (Row (X3.alloc (.cells #[.slice A51 n51 c51, .slice (some ⟨g54, 0, none⟩) en.size c54] 42)) (X3.heap.size + 1) (some ⟨X3.heap.size, 0, none⟩) [.slice A51 n51 c51, .slice (some ⟨g54, 0, none⟩) en.size c54]) := Lib.hid (Row.new X3 #[.slice A51 n51 c51, .slice (some ⟨g54, 0, none⟩) en.size c54] 42 (0, 0) X3.heap.size rfl (Nat.lt_succ_self _))
          have O55 : Hid ((X3.alloc (.cells #[.slice A51 n51 c51, .slice (some ⟨g54, 0, none⟩) en.size c54] 42)).ownsRow W.heap.size 42 1 (.slice A6 m c6) m vs) := Lib.hid (World.ownsRow.kept (row := none) HO8.out (only_of_below TX4.out none) (by cases A6 <;> simp [Value.ownBlock]))
          have S55 := B8.out _ TX4.out
          have HBX := Lib.hid (HB8.out.trans (TX4.out.mono HB8.out.size))
          obtain ⟨X4, hX4⟩ : ∃ X4, X4 = X3.alloc (.cells #[.slice A51 n51 c51, .slice (some ⟨g54, 0, none⟩) en.size c54] 42) := ⟨_, rfl⟩
          rw [← hX4] at TX4 H34 R55 O55 S55 HBX ⊢
          clear hX4
          refine hK _ _ S55 (fun _ => ?_)
          clear hK K
          refine wpAnyH_ready (rs := [14]) (by kernel_rfl) (by simp) (AllReadyH.cons rfl (fun K hK => ?_) AllReadyH.nil)
          refine step_append_vals partTy (by kernel_rfl) (.tmp 42) (.tmp 55) (by kernel_rfl) m (by kernel_rfl) O55.out (X3.heap.size + 1) (some ⟨X3.heap.size, 0, none⟩) 2 [.slice A51 n51 c51, .slice (some ⟨g54, 0, none⟩) en.size c54] 2 rfl (by kernel_rfl) R55.out (by intro u hu; simp at hu; rcases hu with rfl | rfl <;> rfl) (by have := HM2.out; omega) (by have := HM2.out; simp only [maxLen]; omega) HBX.out.size (m + 2) rfl ?_
          intro A9 c9 w9 O9 g9 e9
          have hne8 : some g8 ≠ (.slice A6 m c6 : Value).ownBlock := fun e => by have := HV6.out g8 e.symm; have := HG8.out; omega
          have hl8 : g8 < X4.heap.size := by have := World.block_lt_of_cell? _ _ S55.1; exact this
          have S9 := And.intro ((cells_kept g9 hl8 hne8 0).trans S55.1) ((cells_kept g9 hl8 hne8 1).trans S55.2)
          have HE9 := Lib.hid (each_next hE.out (HBr.out.trans (TX3.out.mono HBr.out.size)) E51.out E54.out HV6.out HBr.out.size H34.out g9 e9)
          have HO9 := Lib.hid O9
          have HB9 := Lib.hid (HBX.out.grown g9 HBX.out.size fun q hq => (World.ownsRow.lt O55.out q hq).1)
          have HL9 : Hid ((L ++ [[ei, en.size].flatMap (numB (wid 1)), en.data.toList]).flatten = numB 1 2 ++ (numB 1 N ++ (es.take (k + 1)).flatMap ebytes)) := Lib.hid (by rw [take_snoc _ (atE_get hlt), HE0.out, List.flatMap_append, List.flatten_append, hL.out]; simp [ebytes])
          clear g9 e9 O9 hne8 hl8
          refine hK _ _ S9 (fun _ => ?_)
          clear hK K
          refine wpAnyH_take (i := 15) (v := .slice A9 (m + 2) c9) rfl (by kernel_rfl) (by kernel_rfl) (by kernel_rfl) (fun _ _ _ h => h) (Or.inl ⟨by kernel_rfl, fun w _ => by go_simp⟩) S9 ?_
          simp only [Act.put, List.getElem_toArray, List.getElem_cons_zero, List.getElem_cons_succ, List.setIfInBounds_toArray, List.set_cons_zero, List.set_cons_succ]
          refine wpAnyH_done (by kernel_rfl) ?_ _
          go_wp2_with fail
          go_roundg g
          case measure => omega
          case rel => exact ⟨k + 1, A9, m + 2, c9, _, _, by omega, by go_num, rfl, Lib.hid (by have := hm6.out; omega), HO9, HE9, HL9, HB9⟩
        · obtain ⟨c54, X2, hrun, hb54, hs54⟩ := KC.out X1
          have TX2 := Lib.hid (TX1.out.trans (hb54.mono TX1.out.size))
          have HB54 := Lib.hid hb54
          have HS54 := Lib.hid hs54
          have S54 := B8.out _ TX2.out
          clear hb54 hs54
          go_simp
          clear hrun
          refine hK _ _ S54 (fun _ => ?_)
          clear hK K
          refine wpAnyH_ready (rs := [9]) (by kernel_rfl) (by simp) (AllReadyH.cons rfl (fun K hK => ?_) AllReadyH.nil)
          have HRS9 := Lib.hid (Nat.le_trans HRS.out HB54.out.size)
          go_simp
          refine (KU.out X2 _ _ HRS9.out (HRN.out.below (HB54.out.mono HRS.out))).mono ?_
          rintro e X3 ⟨A51, n51, c51, rfl, hn51, O51, b51⟩
          have TX3 := Lib.hid (TX2.out.trans (b51.mono TX2.out.size))
          have HB51 := Lib.hid b51
          have HO51 := Lib.hid O51
          have HN51 := Lib.hid hn51
          have S51 := B8.out _ TX3.out
          clear b51 O51 hn51
          refine hK _ _ S51 (fun _ => ?_)
          clear hK K
          have E51 := Lib.hid ((HO51.out.bytesS (by rw [two_len]; simp [maxLen])).keep (w' := X3) (S' := fun b => W8.heap.size ≤ b ∧ b < X3.heap.size) (fun b hb => ⟨⟨Nat.le_trans TX2.out.size (HO51.out.lt b hb).1, (HO51.out.lt b hb).2⟩, rfl⟩))
          have E54 := Lib.hid (HS54.out.keep (w' := X3) (S' := fun b => W8.heap.size ≤ b ∧ b < X3.heap.size) (fun b hb => fresh_keep hb TX1.out.size HB51.out))
          refine wpAnyH_ready (rs := [13]) (by kernel_rfl) (by simp) (AllReadyH.cons rfl (fun K hK => ?_) AllReadyH.nil)
          go_simp
          obtain ⟨g54, hg54⟩ : ∃ g54, X1.heap.size = g54 := ⟨_, rfl⟩
          have E54 : Hid (BytesS X3 (fun b => W8.heap.size ≤ b ∧ b < X3.heap.size) (.slice (some ⟨g54, 0, none⟩) en.size c54) en.data.toList) := Lib.hid (by rw [← hg54]; exact E54.out)
          rw [hg54]
          clear hg54
          have TX4 := Lib.hid (TX3.out.alloc TX3.out.size (.cells #[.slice A51 n51 c51, .slice (some ⟨g54, 0, none⟩) en.size c54] 42))
          have H34 := Lib.hid ((Below.refl X3.heap.size X3).alloc (Nat.le_refl _) (.cells #[.slice A51 n51 c51, .slice (some ⟨g54, 0, none⟩) en.size c54] 42))
          have R55 : Hid (Row (X3.alloc (.cells #[.slice A51 n51 c51, .slice (some ⟨g54, 0, none⟩) en.size c54] 42)) (X3.heap.size + 1) (some ⟨X3.heap.size, 0, none⟩) [.slice A51 n51 c51, .slice (some ⟨g54, 0, none⟩) en.size c54]) := Lib.hid (Row.new X3 #[.slice A51 n51 c51, .slice (some ⟨g54, 0, none⟩) en.size c54] 42 (0, 0) X3.heap.size rfl (Nat.lt_succ_self _))
          have O55 : Hid ((X3.alloc (.cells #[.slice A51 n51 c51, .slice (some ⟨g54, 0, none⟩) en.size c54] 42)).ownsRow W.heap.size 42 1 (.slice A6 m c6) m vs) := Lib.hid (World.ownsRow.kept (row := none) HO8.out (only_of_below TX4.out none) (by cases A6 <;> simp [Value.ownBlock]))
          have S55 := B8.out _ TX4.out
          have HBX := Lib.hid (HB8.out.trans (TX4.out.mono HB8.out.size))
          obtain ⟨X4, hX4⟩ : ∃ X4, X4 = X3.alloc (.cells #[.slice A51 n51 c51, .slice (some ⟨g54, 0, none⟩) en.size c54] 42) := ⟨_, rfl⟩
          rw [← hX4] at TX4 H34 R55 O55 S55 HBX ⊢
          clear hX4
          refine hK _ _ S55 (fun _ => ?_)
          clear hK K
          refine wpAnyH_ready (rs := [14]) (by kernel_rfl) (by simp) (AllReadyH.cons rfl (fun K hK => ?_) AllReadyH.nil)
          refine step_append_vals partTy (by kernel_rfl) (.tmp 42) (.tmp 55) (by kernel_rfl) m (by kernel_rfl) O55.out (X3.heap.size + 1) (some ⟨X3.heap.size, 0, none⟩) 2 [.slice A51 n51 c51, .slice (some ⟨g54, 0, none⟩) en.size c54] 2 rfl (by kernel_rfl) R55.out (by intro u hu; simp at hu; rcases hu with rfl | rfl <;> rfl) (by have := HM2.out; omega) (by have := HM2.out; simp only [maxLen]; omega) HBX.out.size (m + 2) rfl ?_
          intro A9 c9 w9 O9 g9 e9
          have hne8 : some g8 ≠ (.slice A6 m c6 : Value).ownBlock := fun e => by have := HV6.out g8 e.symm; have := HG8.out; omega
          have hl8 : g8 < X4.heap.size := by have := World.block_lt_of_cell? _ _ S55.1; exact this
          have S9 := And.intro ((cells_kept g9 hl8 hne8 0).trans S55.1) ((cells_kept g9 hl8 hne8 1).trans S55.2)
          have HE9 := Lib.hid (each_next hE.out (HBr.out.trans (TX3.out.mono HBr.out.size)) E51.out E54.out HV6.out HBr.out.size H34.out g9 e9)
          have HO9 := Lib.hid O9
          have HB9 := Lib.hid (HBX.out.grown g9 HBX.out.size fun q hq => (World.ownsRow.lt O55.out q hq).1)
          have HL9 : Hid ((L ++ [[ei, en.size].flatMap (numB (wid 1)), en.data.toList]).flatten = numB 1 2 ++ (numB 1 N ++ (es.take (k + 1)).flatMap ebytes)) := Lib.hid (by rw [take_snoc _ (atE_get hlt), HE0.out, List.flatMap_append, List.flatten_append, hL.out]; simp [ebytes])
          clear g9 e9 O9 hne8 hl8
          refine hK _ _ S9 (fun _ => ?_)
          clear hK K
          refine wpAnyH_take (i := 15) (v := .slice A9 (m + 2) c9) rfl (by kernel_rfl) (by kernel_rfl) (by kernel_rfl) (fun _ _ _ h => h) (Or.inl ⟨by kernel_rfl, fun w _ => by go_simp⟩) S9 ?_
          simp only [Act.put, List.getElem_toArray, List.getElem_cons_zero, List.getElem_cons_succ, List.setIfInBounds_toArray, List.set_cons_zero, List.set_cons_succ]
          refine wpAnyH_done (by kernel_rfl) ?_ _
          go_wp2_with fail
          go_roundg g
          case measure => omega
          case rel => exact ⟨k + 1, A9, m + 2, c9, _, _, by omega, by go_num, rfl, Lib.hid (by have := hm6.out; omega), HO9, HE9, HL9, HB9⟩
      · obtain ⟨c54, X1, hrun, hb54, hs54⟩ := KC.out W8.drew
        rw [show W8.drew.heap.size = W8.heap.size from rfl] at hrun hb54 hs54
        have TX1 := Lib.hid (T1.out.trans (hb54.mono T1.out.size))
        have HB54 := Lib.hid hb54
        have HS54 := Lib.hid hs54
        have S54 := B8.out _ TX1.out
        clear hb54 hs54
        go_simp
        clear hrun
        refine hK _ _ S54 (fun _ => ?_)
        clear hK K
        refine wpAnyH_ready (rs := [8]) (by kernel_rfl) (by simp) (AllReadyH.cons rfl (fun K hK => ?_) AllReadyH.nil)
        go_simp
        have TX2 := Lib.hid ((TX1.out.alloc TX1.out.size (.cells #[.int .u64 (ei : Int), .int .u64 (en.size : Int)] 88)))
        have HRN : Hid (Row (X1.alloc (.cells #[.int .u64 (ei : Int), .int .u64 (en.size : Int)] 88)) (X1.heap.size + 1) (some ⟨X1.heap.size, 0, none⟩) (uv [ei, en.size])) := Lib.hid (Row.new X1 #[.int .u64 (ei : Int), .int .u64 (en.size : Int)] 88 (0, 0) X1.heap.size rfl (Nat.lt_succ_self _))
        have HRS : Hid (X1.heap.size + 1 ≤ (X1.alloc (.cells #[.int .u64 (ei : Int), .int .u64 (en.size : Int)] 88)).heap.size) := Lib.hid (by simp)
        have HB50 : Hid (Below X1.heap.size X1 (X1.alloc (.cells #[.int .u64 (ei : Int), .int .u64 (en.size : Int)] 88))) := Lib.hid ((Below.refl _ _).alloc (Nat.le_refl _) _)
        have S50 := B8.out _ TX2.out
        obtain ⟨X2, hX2⟩ : ∃ X2, X2 = (X1.alloc (.cells #[.int .u64 (ei : Int), .int .u64 (en.size : Int)] 88)) := ⟨_, rfl⟩
        rw [← hX2] at TX2 HRN HRS S50 HB50 ⊢
        obtain ⟨g50, hg50⟩ : ∃ g50, X1.heap.size = g50 := ⟨_, rfl⟩
        rw [hg50] at HRN HRS ⊢
        have HG50 := Lib.hid hg50
        clear hX2 hg50
        refine hK _ _ S50 (fun _ => ?_)
        clear hK K
        refine wpAnyH_ready (rs := [9]) (by kernel_rfl) (by simp) (AllReadyH.cons rfl (fun K hK => ?_) AllReadyH.nil)
        have HRS9 := HRS
        go_simp
        refine (KU.out X2 _ _ HRS9.out HRN.out).mono ?_
        rintro e X3 ⟨A51, n51, c51, rfl, hn51, O51, b51⟩
        have TX3 := Lib.hid (TX2.out.trans (b51.mono TX2.out.size))
        have HB51 := Lib.hid b51
        have HO51 := Lib.hid O51
        have HN51 := Lib.hid hn51
        have S51 := B8.out _ TX3.out
        clear b51 O51 hn51
        refine hK _ _ S51 (fun _ => ?_)
        clear hK K
        have E51 := Lib.hid ((HO51.out.bytesS (by rw [two_len]; simp [maxLen])).keep (w' := X3) (S' := fun b => W8.heap.size ≤ b ∧ b < X3.heap.size) (fun b hb => ⟨⟨Nat.le_trans TX2.out.size (HO51.out.lt b hb).1, (HO51.out.lt b hb).2⟩, rfl⟩))
        have E54 := Lib.hid (HS54.out.keep (w' := X3) (S' := fun b => W8.heap.size ≤ b ∧ b < X3.heap.size) (fun b hb => fresh_keep2 hb T1.out.size HB50.out HB51.out))
        refine wpAnyH_ready (rs := [13]) (by kernel_rfl) (by simp) (AllReadyH.cons rfl (fun K hK => ?_) AllReadyH.nil)
        go_simp
        obtain ⟨g54, hg54⟩ : ∃ g54, W8.heap.size = g54 := ⟨_, rfl⟩
        have E54 : Hid (BytesS X3 (fun b => W8.heap.size ≤ b ∧ b < X3.heap.size) (.slice (some ⟨g54, 0, none⟩) en.size c54) en.data.toList) := Lib.hid (by rw [← hg54]; exact E54.out)
        rw [hg54]
        clear hg54
        have TX4 := Lib.hid (TX3.out.alloc TX3.out.size (.cells #[.slice A51 n51 c51, .slice (some ⟨g54, 0, none⟩) en.size c54] 42))
        have H34 := Lib.hid ((Below.refl X3.heap.size X3).alloc (Nat.le_refl _) (.cells #[.slice A51 n51 c51, .slice (some ⟨g54, 0, none⟩) en.size c54] 42))
        have R55 : Hid (Row (X3.alloc (.cells #[.slice A51 n51 c51, .slice (some ⟨g54, 0, none⟩) en.size c54] 42)) (X3.heap.size + 1) (some ⟨X3.heap.size, 0, none⟩) [.slice A51 n51 c51, .slice (some ⟨g54, 0, none⟩) en.size c54]) := Lib.hid (Row.new X3 #[.slice A51 n51 c51, .slice (some ⟨g54, 0, none⟩) en.size c54] 42 (0, 0) X3.heap.size rfl (Nat.lt_succ_self _))
        have O55 : Hid ((X3.alloc (.cells #[.slice A51 n51 c51, .slice (some ⟨g54, 0, none⟩) en.size c54] 42)).ownsRow W.heap.size 42 1 (.slice A6 m c6) m vs) := Lib.hid (World.ownsRow.kept (row := none) HO8.out (only_of_below TX4.out none) (by cases A6 <;> simp [Value.ownBlock]))
        have S55 := B8.out _ TX4.out
        have HBX := Lib.hid (HB8.out.trans (TX4.out.mono HB8.out.size))
        obtain ⟨X4, hX4⟩ : ∃ X4, X4 = X3.alloc (.cells #[.slice A51 n51 c51, .slice (some ⟨g54, 0, none⟩) en.size c54] 42) := ⟨_, rfl⟩
        rw [← hX4] at TX4 H34 R55 O55 S55 HBX ⊢
        clear hX4
        refine hK _ _ S55 (fun _ => ?_)
        clear hK K
        refine wpAnyH_ready (rs := [14]) (by kernel_rfl) (by simp) (AllReadyH.cons rfl (fun K hK => ?_) AllReadyH.nil)
        refine step_append_vals partTy (by kernel_rfl) (.tmp 42) (.tmp 55) (by kernel_rfl) m (by kernel_rfl) O55.out (X3.heap.size + 1) (some ⟨X3.heap.size, 0, none⟩) 2 [.slice A51 n51 c51, .slice (some ⟨g54, 0, none⟩) en.size c54] 2 rfl (by kernel_rfl) R55.out (by intro u hu; simp at hu; rcases hu with rfl | rfl <;> rfl) (by have := HM2.out; omega) (by have := HM2.out; simp only [maxLen]; omega) HBX.out.size (m + 2) rfl ?_
        intro A9 c9 w9 O9 g9 e9
        have hne8 : some g8 ≠ (.slice A6 m c6 : Value).ownBlock := fun e => by have := HV6.out g8 e.symm; have := HG8.out; omega
        have hl8 : g8 < X4.heap.size := by have := World.block_lt_of_cell? _ _ S55.1; exact this
        have S9 := And.intro ((cells_kept g9 hl8 hne8 0).trans S55.1) ((cells_kept g9 hl8 hne8 1).trans S55.2)
        have HE9 := Lib.hid (each_next hE.out (HBr.out.trans (TX3.out.mono HBr.out.size)) E51.out E54.out HV6.out HBr.out.size H34.out g9 e9)
        have HO9 := Lib.hid O9
        have HB9 := Lib.hid (HBX.out.grown g9 HBX.out.size fun q hq => (World.ownsRow.lt O55.out q hq).1)
        have HL9 : Hid ((L ++ [[ei, en.size].flatMap (numB (wid 1)), en.data.toList]).flatten = numB 1 2 ++ (numB 1 N ++ (es.take (k + 1)).flatMap ebytes)) := Lib.hid (by rw [take_snoc _ (atE_get hlt), HE0.out, List.flatMap_append, List.flatten_append, hL.out]; simp [ebytes])
        clear g9 e9 O9 hne8 hl8
        refine hK _ _ S9 (fun _ => ?_)
        clear hK K
        refine wpAnyH_take (i := 15) (v := .slice A9 (m + 2) c9) rfl (by kernel_rfl) (by kernel_rfl) (by kernel_rfl) (fun _ _ _ h => h) (Or.inl ⟨by kernel_rfl, fun w _ => by go_simp⟩) S9 ?_
        simp only [Act.put, List.getElem_toArray, List.getElem_cons_zero, List.getElem_cons_succ, List.setIfInBounds_toArray, List.set_cons_zero, List.set_cons_succ]
        refine wpAnyH_done (by kernel_rfl) ?_ _
        go_wp2_with fail
        go_roundg g
        case measure => omega
        case rel => exact ⟨k + 1, A9, m + 2, c9, _, _, by omega, by go_num, rfl, Lib.hid (by have := hm6.out; omega), HO9, HE9, HL9, HB9⟩
theorem write_yes (n : IN) (v : Value) (w : World) (hv : Ents w w.heap.size v n.es) (h : n.ok) :
    Calls Try.prog 19 #[.agg #[.int .i64 n.k, .int .i64 n.z, v]] w fun e w' => ∃ g c, e = .returned (.tuple #[.slice (some ⟨g, 0, none⟩) n.bytes.length c, .int .i64 0]) ∧ Own 5 w' w.heap.size (.slice (some ⟨g, 0, none⟩) n.bytes.length c) n.bytes ∧ Below w.heap.size w w' :=
  h.elim (write_file n v w hv) (write_dir n v w hv)
end Go.Proofs.Ytkpojlnfagonbaa

