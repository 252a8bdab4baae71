/- Several texts of the proof, joined: what each has is said at its head. -/
import Derived.Test.YtppodbijdhcclaaQCacheJE
import Derived.Test.YtppodbijdhcclaaQFrame
import Derived.Test.YtppodbijdhcclaaQInoJA
import Derived.Deep.DeepCutAuto
/- Files over nodes, plainly: an inode is a directory without entries, or a file of some bytes. No condition. -/
namespace Go.Proofs.Ytppodbijdhcclaa
open Go Go.RowKit
/-- what an inode is -/
inductive FI where
  | dir : FI
  | file (l : List UInt8) : FI
/-- the inodes that there are -/
abbrev FS := Int → Option FI
def chunkL (l : List UInt8) (k : Nat) : List UInt8 := (l.drop (128 * k)).take 128
def FI.head : FI → List UInt8
  | .dir => [2, 0]
  | .file l => [1, UInt8.ofNat (l.length % 256), UInt8.ofNat (l.length / 256)]
def FI.node (x : FI) (j : Nat) : Option (List UInt8) := if j = 0 then some x.head else match x with
  | .dir => none
  | .file l => if j ≤ 6 ∧ 128 * (j - 1) < l.length then some (chunkL l (j - 1)) else none
def FS.ok (F : FS) : Prop := ∀ z x, F z = some x → (1 ≤ z ∧ z ≤ 24) ∧ ∀ l, x = .file l → l.length ≤ 768
def FS.node (F : FS) (z : Int) : Option (List UInt8) := match F (z / 8) with
  | some x => x.node (z % 8).toNat
  | none => none
def FS.put (F : FS) (n : Int) (x : Option FI) : FS := fun z => if z = n then x else F z
theorem FS.node_key (F : FS) (n : Int) (j : Nat) (hj : j < 8) : F.node (8 * n + (j : Int)) = match F n with
  | some x => x.node j
  | none => none := by
  unfold FS.node
  rw [show (8 * n + (j : Int)) / 8 = n by omega, show ((8 * n + (j : Int)) % 8).toNat = j by omega]
theorem FS.node_far (F : FS) (n : Int) (x : Option FI) {z : Int} (hz : z / 8 ≠ n) : (F.put n x).node z = F.node z := by
  unfold FS.node FS.put
  rw [if_neg hz]
theorem FS.node_near (F : FS) (n : Int) (x : FI) (j : Nat) (hj : j < 8) : (F.put n (some x)).node (8 * n + (j : Int)) = x.node j := by
  rw [FS.node_key _ _ _ hj]
  unfold FS.put
  rw [if_pos rfl]
theorem FS.put_ok {F : FS} (h : F.ok) {n : Int} (hn : 1 ≤ n ∧ n ≤ 24) {l : List UInt8} (hl : l.length ≤ 768) : (F.put n (some (.file l))).ok := fun z x hx => by
  unfold FS.put at hx
  split at hx
  · cases hx
    subst z
    exact ⟨hn, fun l' e => by cases e; exact hl⟩
  · exact h z x hx
theorem FS.none_ok {F : FS} (h : F.ok) (n : Int) : (F.put n none).ok := fun z x hx => by
  unfold FS.put at hx
  split at hx
  · cases hx
  · exact h z x hx
theorem FI.head_len (x : FI) : x.head.length ≤ 3 := by cases x <;> simp [FI.head]
theorem chunkL_len (l : List UInt8) (k : Nat) : (chunkL l k).length = min 128 (l.length - 128 * k) := by simp [chunkL]
theorem FI.node_len {x : FI} {j : Nat} {b : List UInt8} (h : x.node j = some b) : b.length ≤ 224 := by
  unfold FI.node at h
  split at h
  · cases h; have := x.head_len; omega
  · cases x with
    | dir => cases h
    | file l =>
      dsimp only at h
      split at h
      · cases h; rw [chunkL_len]; omega
      · cases h
/-- the changes, plainly: keys, and their bodies or none -/
abbrev CL := List (Int × Option (List UInt8))
def applyC (G : Int → Option (List UInt8)) : CL → Int → Option (List UInt8)
  | [] => G
  | x :: C => applyC (fun z => if z = x.1 then x.2 else G z) C
theorem applyC_of {F' : Int → Option (List UInt8)} : ∀ (C : CL) (G : Int → Option (List UInt8)), (∀ x ∈ C, F' x.1 = x.2) → (∀ z, (∀ x ∈ C, x.1 ≠ z) → G z = F' z) → ∀ z, applyC G C z = F' z
  | [], G, _, h2, z => h2 z (fun x hx => by cases hx)
  | x :: C, G, h1, h2, z => by
    refine applyC_of C _ (fun y hy => h1 y (.tail _ hy)) (fun z hz => ?_) z
    by_cases e : z = x.1
    · rw [if_pos e, e]; exact (h1 x (.head _)).symm
    · rw [if_neg e]
      refine h2 z (fun y hy => ?_)
      rcases List.mem_cons.1 hy with rfl | hy
      · exact fun e2 => e e2.symm
      · exact hz y hy
theorem applyC_app : ∀ (C D : CL) (G : Int → Option (List UInt8)), applyC G (C ++ D) = applyC (applyC G C) D
  | [], _, _ => rfl
  | _ :: C, D, _ => applyC_app C D _
theorem get_putP (i : CI) (P : Int → Option CE) (k : Int) (g : Bool) (l : List UInt8) (z : Int) : i.get (putP P k g l) z = if z = k then (if g then none else some l) else i.get P z := by
  unfold CI.get getB putP
  by_cases e : z = k
  · rw [if_pos e, if_pos e]; cases g <;> rfl
  · rw [if_neg e, if_neg e]
/-- a change of memory says a plain one -/
def saysC (cs : List CV) (ls : List (List UInt8)) (C : CL) : Prop := cs.map kg = C.map (fun x => (x.1, x.2.isNone)) ∧ ls = C.map (fun x => x.2.getD [])
theorem saysC.len {cs : List CV} {ls : List (List UInt8)} {C : CL} (h : saysC cs ls C) : cs.length = C.length ∧ ls.length = C.length := ⟨by rw [← List.length_map (f := kg), h.1, List.length_map], by rw [h.2, List.length_map]⟩
theorem saysC.snoc {cs : List CV} {ls : List (List UInt8)} {C : CL} (h : saysC cs ls C) (x : CV) (l : List UInt8) (y : Int × Option (List UInt8)) (h1 : x.k = y.1) (h2 : x.g = y.2.isNone) (h3 : l = y.2.getD []) : saysC (cs ++ [x]) (ls ++ [l]) (C ++ [y]) := by
  refine ⟨?_, ?_⟩
  · rw [List.map_append, List.map_append, h.1]
    simp [kg, h1, h2]
  · rw [List.map_append, h.2]
    simp [h3]
theorem saysC.app {cs ds : List CV} {ls ms : List (List UInt8)} {C D : CL} (h : saysC cs ls C) (g : saysC ds ms D) : saysC (cs ++ ds) (ls ++ ms) (C ++ D) :=
  ⟨by rw [List.map_append, List.map_append, h.1, g.1], by rw [List.map_append, h.2, g.2]⟩
theorem saysC.get {cs : List CV} {ls : List (List UInt8)} {C : CL} (h : saysC cs ls C) {k : Nat} {x : CV} (hx : cs[k]? = some x) : ∃ y, C[k]? = some y ∧ x.k = y.1 ∧ x.g = y.2.isNone ∧ ls.getD k [] = y.2.getD [] := by
  have hk := get_lt hx
  have hk2 : k < C.length := by rw [← h.len.1]; exact hk
  refine ⟨C[k], List.getElem?_eq_getElem hk2, ?_⟩
  have h1 : (cs.map kg)[k]? = (C.map (fun x => (x.1, x.2.isNone)))[k]? := by rw [h.1]
  rw [List.getElem?_map, List.getElem?_map, hx, List.getElem?_eq_getElem hk2] at h1
  simp only [Option.map_some, Option.some.injEq, kg, Prod.mk.injEq] at h1
  refine ⟨h1.1, h1.2, ?_⟩
  rw [h.2, List.getD_eq_getElem?_getD, List.getElem?_map, List.getElem?_eq_getElem hk2]
  rfl
/-- what is told behind the changes -/
theorem get_says (i : CI) (P : Int → Option CE) {cs : List CV} {ls : List (List UInt8)} {C : CL} (h : saysC cs ls C) : ∀ k, k ≤ cs.length → ∀ z, i.get (putTo P cs ls k) z = applyC (i.get P) (C.take k) z
  | 0, _, z => by rw [List.take_zero]; rfl
  | k + 1, hk, z => by
    obtain ⟨x, hx⟩ : ∃ x, cs[k]? = some x := ⟨_, List.getElem?_eq_getElem hk⟩
    obtain ⟨y, hy, e1, e2, e3⟩ := h.get hx
    have ih := get_says i P h k (by omega)
    show i.get (putP (putTo P cs ls k) (cs.getD k _).k (cs.getD k _).g (ls.getD k [])) z = _
    rw [List.getD_eq_getElem?_getD, hx, Option.getD_some, get_putP, List.take_add_one, hy, e3, e1, e2, ih, applyC_app]
    show _ = if z = y.1 then y.2 else applyC (i.get P) (C.take k) z
    by_cases e : z = y.1
    · rw [if_pos e, if_pos e]
      cases y.2 <;> rfl
    · rw [if_neg e, if_neg e]
theorem get_all (i : CI) (P : Int → Option CE) {cs : List CV} {ls : List (List UInt8)} {C : CL} (h : saysC cs ls C) (z : Int) : i.get (putTo P cs ls cs.length) z = applyC (i.get P) C z := by
  rw [get_says i P h cs.length (Nat.le_refl _), h.len.1, List.take_of_length_le (Nat.le_refl _)]
/-- a cache tells these inodes -/
def FAt (w : World) (i : CI) (N : Nat) (F : FS) (S : Nat → Prop) : Prop := ∃ P, CAt w i N P S ∧ i.small ∧ PGood P ∧ (∀ z, i.get P z = F.node z) ∧ F.ok
section
variable {w w' : World} {i : CI} {N : Nat} {F : FS} {S : Nat → Prop}
theorem FAt.after (h : FAt w i N F S) (hb : Below w.heap.size w w') : FAt w' i N F S := by
  obtain ⟨P, h1, h2⟩ := h
  exact ⟨P, h1.after hb, h2⟩
theorem FAt.alloc (h : FAt w i N F S) (o : Obj) : FAt (w.alloc o) i N F S := h.after ((Below.refl _ _).alloc (Nat.le_refl _) o)
theorem FAt.other {g : Nat} (h : FAt w i N F S) (hg : w.grownBy w' (some g)) (hf : i.free S g) : FAt w' i N F S := by
  obtain ⟨P, h1, h2⟩ := h
  exact ⟨P, h1.other hg hf, h2⟩
theorem FAt.free (h : FAt w i N F S) {g : Nat} (hg : w.heap.size ≤ g) : i.free S g := by
  obtain ⟨P, h1, _⟩ := h
  exact h1.free hg
theorem FAt.more {N' : Nat} (h : FAt w i N F S) (hn : N ≤ N') : FAt w i N' F S := by
  obtain ⟨P, h1, h2⟩ := h
  exact ⟨P, h1.more hn, h2⟩
theorem FAt.lt (h : FAt w i N F S) : i.q < w.heap.size ∧ i.m < w.heap.size ∧ i.s < w.heap.size ∧ i.q ≠ i.m ∧ i.s ≠ i.m := by
  obtain ⟨P, h1, _⟩ := h
  exact h1.lt
theorem FAt.ok (h : FAt w i N F S) : F.ok := by
  obtain ⟨P, _, _, _, _, h1⟩ := h
  exact h1
end
/-- how many nodes there are -/
def FS.cnt (F : FS) : Nat := cntP (fun z => (F.node z).isSome)
def FS.full (mo : Int) (F F' : FS) : Prop := mo < (F'.cnt : Int) ∧ F.cnt < F'.cnt
instance (mo : Int) (F F' : FS) : Decidable (FS.full mo F F') := inferInstanceAs (Decidable (_ ∧ _))
/-- Get of a cache that tells inodes -/
theorem get_fat (i : CI) (N : Nat) (F : FS) (S : Nat → Prop) (k : Int) (w : World) (h : FAt w i N F S) (hwf : (Lit.int .i64 k).wf = true) :
    Calls Try.prog 22 #[.pointer (some ⟨i.q, 0, none⟩), .int .i64 k] w fun e w' => GetC w (F.node k) e w' := by
  obtain ⟨P, h1, h2, h3, h4, _⟩ := h
  rw [← h4 k]
  exact get_cat i N P S k w h1 h2 h3.small hwf
/-- the changes are such as may be -/
def CL.good (C : CL) : Prop := C.Pairwise (fun a b => a.1 ≠ b.1) ∧ ∀ x ∈ C, (0 ≤ x.1 ∧ x.1 < 256) ∧ ∀ b, x.2 = some b → b.length ≤ 224
theorem says_right {cs : List CV} {ls : List (List UInt8)} {C : CL} (h : saysC cs ls C) (hg : C.good) (hn : ∀ (k : Nat) (x : CV), cs[k]? = some x → x.n = (ls.getD k []).length) : rightC lzeros cs = true := by
  refine rightC_of cs lzeros lzeros_length (fun x hx => ?_) ?_ (fun x _ => lhas_lzeros x.k)
  · obtain ⟨k, hk⟩ := List.mem_iff_getElem?.1 hx
    obtain ⟨y, hy, e1, e2, e3⟩ := h.get hk
    have h1 := hg.2 y (List.mem_of_getElem? hy)
    rw [e1, hn k x hk, e3]
    refine ⟨h1.1, ?_⟩
    cases hb : y.2 with
    | none => simp
    | some b => exact h1.2 b hb
  · rw [List.pairwise_iff_getElem]
    intro a b ha hb hab
    obtain ⟨y, hy, e1, _⟩ := h.get (List.getElem?_eq_getElem ha)
    obtain ⟨z, hz, e2, _⟩ := h.get (List.getElem?_eq_getElem hb)
    have h1 := (List.pairwise_iff_getElem.1 hg.1) a b (get_lt hy) (get_lt hz) hab
    rw [(List.getElem?_eq_some_iff.1 hy).2, (List.getElem?_eq_some_iff.1 hz).2] at h1
    rw [e1, e2]
    exact h1
/-- Put of changes that may be -/
theorem put_fat (i : CI) (N : Nat) (F F' : FS) (S : Nat → Prop) (v : Value) (cs : List CV) (ls : List (List UInt8)) (C : CL) (w : World) (h : FAt w i N F S) (hc : Chs w w.heap.size v cs) (hl : BodL w w.heap.size cs ls) (hs : saysC cs ls C) (hg : C.good) (hz : C.length ≤ 1000) (hN : N ≤ 1000000) (hF : ∀ z, applyC F.node C z = F'.node z) (hok : F'.ok) :
    Calls Try.prog 19 #[.pointer (some ⟨i.q, 0, none⟩), v] w fun e w' =>
      (FS.full i.mo F F' ∧ e = .returned (.int .i64 40) ∧ Below w.heap.size w w') ∨
      (¬ FS.full i.mo F F' ∧ e = .returned (.int .i64 0) ∧ w.grownBy w' (some i.m) ∧ FAt w' i (N + C.length) F' (fun b => S b ∨ (w.heap.size ≤ b ∧ b < w'.heap.size))) := by
  obtain ⟨P, h1, h2, h3, h4, h5⟩ := h
  have hlen := hs.len
  have hn : ∀ (k : Nat) (x : CV), cs[k]? = some x → x.n = (ls.getD k []).length := fun k x hx => by
    obtain ⟨A, c, e, _⟩ := hl.2 k x hx
    simp only [Value.slice.injEq] at e
    exact e.2.1
  have hr := says_right hs hg hn
  have hget : ∀ z, i.get (putTo P cs ls cs.length) z = F'.node z := fun z => by
    rw [get_all i P hs z, ← hF z, show i.get P = F.node from funext h4]
  have e1 : cntP (liveP i.th P) = F.cnt := cntP_congr (fun k _ => by rw [← get_live i P, h4])
  have e2 : cntP (behP i.th P cs ls) = F'.cnt := cntP_congr (fun k _ => by unfold behP; rw [← get_live i, hget])
  refine (put_cat i N P S v cs ls w h1 hc hl (by omega) hN).mono ?_
  rintro e w' (⟨a1, _⟩ | ⟨_, a1, a2, a3⟩ | ⟨_, a1, a2, a3, a4⟩)
  · rw [hr] at a1; cases a1
  · unfold noSpace at a1
    rw [e1, e2] at a1
    exact .inl ⟨a1, a2, a3⟩
  · unfold noSpace at a1
    rw [e1, e2] at a1
    refine .inr ⟨a1, a2, a3, putTo P cs ls cs.length, by rw [← hlen.1]; exact a4, h2, h3.putTo cs ls (fun k x hx => ?_) cs.length (Nat.le_refl _), hget, hok⟩
    obtain ⟨y, hy, e3, _, e5⟩ := hs.get hx
    have h6 := hg.2 y (List.mem_of_getElem? hy)
    rw [e3, e5]
    refine ⟨h6.1, ?_⟩
    cases hb : y.2 with
    | none => simp
    | some b => exact h6.2 b hb
end Go.Proofs.Ytppodbijdhcclaa

/- span, common and length of file: where a chunk lies. No condition but that the numbers are small. -/
namespace Go.Proofs.Ytppodbijdhcclaa
open Go Go.RowKit
theorem two_ints {a b c d : Int} (h1 : a = c) (h2 : b = d) : Ending.returned (.tuple #[.int .i64 a, .int .i64 b]) = .returned (.tuple #[.int .i64 c, .int .i64 d]) := by rw [h1, h2]
theorem one_int {a b : Int} (h1 : a = b) : Ending.returned (.int .i64 a) = .returned (.int .i64 b) := by rw [h1]
def begN (k s : Nat) : Nat := min (128 * (k - 1)) s
def endN (k s : Nat) : Nat := min (128 * k) s
def lenN (k s : Nat) : Nat := endN k s - begN k s
def comN (k s a b : Nat) : Nat := min (endN k s) b - max (begN k s) a
theorem span_any (k s : Nat) (w : World) (hk : 1 ≤ k ∧ k ≤ 7) :
    Calls Try.prog 71 #[.int .i64 (k : Int), .int .i64 (s : Int)] w fun e w' => e = .returned (.tuple #[.int .i64 (begN k s : Int), .int .i64 (endN k s : Int)]) ∧ w = w' := by
  obtain ⟨k1, k2⟩ := hk
  unfold begN endN
  go_enter Try.func71, Try.ntmps71
  go_wp2_with fail
  all_goals
    go_ret2
    exact ⟨two_ints (by omega) (by omega), rfl⟩
theorem length_any (k s : Nat) (w : World) (hk : 1 ≤ k ∧ k ≤ 7) (hs : s ≤ 768) :
    Calls Try.prog 58 #[.int .i64 (k : Int), .int .i64 (s : Int)] w fun e w' => e = .returned (.int .i64 (lenN k s : Int)) ∧ w = w' := by
  have KS := Lib.hid (span_any k s w hk)
  unfold lenN
  have h1 : begN k s ≤ endN k s := by unfold begN endN; omega
  have h2 : endN k s ≤ 768 := by unfold endN; omega
  generalize begN k s = x at KS h1 ⊢
  generalize endN k s = n at KS h1 h2 ⊢
  go_enter Try.func58, Try.ntmps58
  go_wp2_with fail
  refine KS.out.mono ?_
  rintro e w' ⟨rfl, rfl⟩
  go_wp2_with fail
  go_ret
  exact ⟨one_int (by omega), rfl⟩
theorem common_any (k s a b : Nat) (w : World) (hk : 1 ≤ k ∧ k ≤ 7) (hs : s ≤ 768) (ha : a ≤ 768) (hb : b ≤ 768) :
    Calls Try.prog 50 #[.int .i64 (k : Int), .int .i64 (s : Int), .int .i64 (a : Int), .int .i64 (b : Int)] w fun e w' => e = .returned (.int .i64 (comN k s a b : Int)) ∧ w = w' := by
  have KS := Lib.hid (span_any k s w hk)
  unfold comN
  have h1 : begN k s ≤ endN k s := by unfold begN endN; omega
  have h2 : endN k s ≤ 768 := by unfold endN; omega
  generalize begN k s = x at KS h1 ⊢
  generalize endN k s = n at KS h1 h2 ⊢
  go_enter Try.func50, Try.ntmps50
  go_wp2_with fail
  refine KS.out.mono ?_
  rintro e w' ⟨rfl, rfl⟩
  go_wp2_with fail
  all_goals
    go_ret
    exact ⟨one_int (by omega), rfl⟩
end Go.Proofs.Ytppodbijdhcclaa

/- A file's bytes as they stand in an array of 768: tables of bytes. No condition. -/
namespace Go.Proofs.Ytppodbijdhcclaa
open Go Go.RowKit
/-- the array whose byte b is f b -/
def tab (f : Nat → UInt8) : List UInt8 := (List.range 768).map f
theorem tab_length (f : Nat → UInt8) : (tab f).length = 768 := by simp [tab]
theorem tab_get (f : Nat → UInt8) {b : Nat} (hb : b < 768) : (tab f)[b]? = some (f b) := by
  unfold tab
  rw [List.getElem?_map, List.getElem?_range hb]
  rfl
theorem tab_ext {f g : Nat → UInt8} (h : ∀ b, b < 768 → f b = g b) : tab f = tab g := by
  unfold tab
  exact List.map_congr_left (fun b hb => h b (by simpa using hb))
theorem lay_get {L m : List UInt8} {o : Nat} (h : o + m.length ≤ L.length) (b : Nat) : (lay L o m)[b]? = if o ≤ b ∧ b < o + m.length then m[b - o]? else L[b]? := by
  unfold lay
  by_cases h1 : b < o
  · rw [if_neg (by omega), List.append_assoc, List.getElem?_append_left (by rw [List.length_take]; omega), List.getElem?_take, if_pos h1]
  · by_cases h2 : b < o + m.length
    · rw [if_pos ⟨by omega, h2⟩, List.getElem?_append_left (by rw [List.length_append, List.length_take]; omega), List.getElem?_append_right (by rw [List.length_take]; omega), List.length_take, Nat.min_eq_left (by omega)]
    · rw [if_neg (by omega), List.getElem?_append_right (by rw [List.length_append, List.length_take]; omega), List.length_append, List.length_take, Nat.min_eq_left (by omega), List.getElem?_drop]
      congr 1
      omega
theorem lay_tab {f : Nat → UInt8} {o : Nat} {m : List UInt8} (h : o + m.length ≤ 768) : lay (tab f) o m = tab (fun b => if o ≤ b ∧ b < o + m.length then m.getD (b - o) 0 else f b) := by
  refine List.ext_getElem? (fun b => ?_)
  rw [lay_get (by rw [tab_length]; exact h)]
  by_cases hb : b < 768
  · rw [tab_get _ hb, tab_get _ hb]
    by_cases h1 : o ≤ b ∧ b < o + m.length
    · rw [if_pos h1, if_pos h1, List.getD_eq_getElem?_getD, List.getElem?_eq_getElem (by omega)]
      rfl
    · rw [if_neg h1, if_neg h1]
  · rw [if_neg (by omega), List.getElem?_eq_none (by rw [tab_length]; omega), List.getElem?_eq_none (by rw [tab_length]; omega)]
/-- what was loaded of a file, of the chunks that p asks for, up to the k-th one -/
def loadF (l : List UInt8) (p : Nat → Bool) (k : Nat) (b : Nat) : UInt8 := if b < l.length ∧ b < 128 * k ∧ p (b / 128 + 1) = true then l.getD b 0 else 0
def loadL (l : List UInt8) (p : Nat → Bool) (k : Nat) : List UInt8 := tab (loadF l p k)
def tz : List UInt8 := tab (fun _ => 0)
theorem loadL_zero (l : List UInt8) (p : Nat → Bool) : loadL l p 0 = tz := tab_ext (fun b _ => if_neg (by omega))
theorem chunkL_get (l : List UInt8) (k b : Nat) (h1 : 128 * k ≤ b) (h2 : b < 128 * k + 128) : (chunkL l k).getD (b - 128 * k) 0 = l.getD b 0 := by
  unfold chunkL
  rw [List.getD_eq_getElem?_getD, List.getElem?_take, if_pos (by omega), List.getElem?_drop, show 128 * k + (b - 128 * k) = b by omega, ← List.getD_eq_getElem?_getD]
theorem loadL_yes {l : List UInt8} {p : Nat → Bool} {k : Nat} (hl : l.length ≤ 768) (hk : 128 * k < l.length) (hp : p (k + 1) = true) : lay (loadL l p k) (128 * k) (chunkL l k) = loadL l p (k + 1) := by
  have hc := chunkL_len l k
  unfold loadL
  rw [lay_tab (by omega)]
  refine tab_ext (fun b hb => ?_)
  unfold loadF
  by_cases h1 : 128 * k ≤ b ∧ b < 128 * k + (chunkL l k).length
  · rw [if_pos h1, if_pos ⟨by omega, by omega, by rw [show b / 128 = k by omega]; exact hp⟩]
    exact chunkL_get l k b h1.1 (by omega)
  · rw [if_neg h1]
    by_cases h2 : b < l.length ∧ b < 128 * k ∧ p (b / 128 + 1) = true
    · rw [if_pos h2, if_pos ⟨h2.1, by omega, h2.2.2⟩]
    · rw [if_neg h2, if_neg (fun h3 => h2 ⟨h3.1, by omega, h3.2.2⟩)]
theorem loadL_no {l : List UInt8} {p : Nat → Bool} {k : Nat} (hp : p (k + 1) = false) : loadL l p k = loadL l p (k + 1) := by
  refine tab_ext (fun b hb => ?_)
  unfold loadF
  by_cases h2 : b < l.length ∧ b < 128 * k ∧ p (b / 128 + 1) = true
  · rw [if_pos h2, if_pos ⟨h2.1, by omega, h2.2.2⟩]
  · rw [if_neg h2]
    refine (if_neg (fun h3 => ?_)).symm
    by_cases h4 : b < 128 * k
    · exact h2 ⟨h3.1, h4, h3.2.2⟩
    · have h5 := h3.2.2
      rw [show b / 128 = k by omega, hp] at h5
      cases h5
theorem loadL_all {l : List UInt8} {p : Nat → Bool} {k : Nat} (hk : l.length ≤ 128 * k) : loadL l p k = loadL l p 6 := by
  refine tab_ext (fun b hb => ?_)
  unfold loadF
  by_cases h : b < l.length ∧ p (b / 128 + 1) = true
  · rw [if_pos ⟨h.1, by omega, h.2⟩, if_pos ⟨h.1, by omega, h.2⟩]
  · rw [if_neg (fun h2 => h ⟨h2.1, h2.2.2⟩), if_neg (fun h2 => h ⟨h2.1, h2.2.2⟩)]
/-- a part of a table -/
theorem tab_part {f : Nat → UInt8} {a n : Nat} {m : List UInt8} (h : a + n ≤ 768) (hm : m.length = n) (hf : ∀ b, b < n → f (a + b) = m.getD b 0) : ((tab f).drop a).take n = m := by
  refine List.ext_getElem? (fun b => ?_)
  rw [List.getElem?_take]
  by_cases hb : b < n
  · rw [if_pos hb, List.getElem?_drop, tab_get f (by omega), hf b hb, List.getD_eq_getElem?_getD, List.getElem?_eq_getElem (by omega)]
    rfl
  · rw [if_neg hb, List.getElem?_eq_none (by omega)]
theorem aggT : ∀ w, (isAgg 105).run Try.prog w = .ok true w := fun _ => by kernel_rfl
theorem sizeT : ∀ w, (sizeOf 105).run Try.prog w = .ok 768 w := fun _ => by kernel_rfl
theorem zeroT (w : World) : (zeroValue 105).run Try.prog w = .ok (.agg (cl tz)) w := by kernel_rfl
theorem aggF : ∀ w, (isAgg 101).run Try.prog w = .ok true w := fun _ => by kernel_rfl
theorem sizeF : ∀ w, (sizeOf 101).run Try.prog w = .ok 3 w := fun _ => by kernel_rfl
theorem FAt.drew {w : World} {i : CI} {N : Nat} {F : FS} {S : Nat → Prop} (h : FAt w i N F S) : FAt w.drew i N F S := by
  obtain ⟨P, h1, h2⟩ := h
  exact ⟨P, h1.drew, h2⟩
end Go.Proofs.Ytppodbijdhcclaa

/- A chunk of a file that a cache tells. No condition but that the cache tells inodes. -/
namespace Go.Proofs.Ytppodbijdhcclaa
open Go Go.RowKit
theorem node_chunk {F : FS} (h : F.ok) {n : Int} {l : List UInt8} (hF : F n = some (.file l)) {k : Nat} (hk : 1 ≤ k ∧ 128 * (k - 1) < l.length) : F.node (8 * n + (k : Int)) = some (chunkL l (k - 1)) ∧ (1 ≤ n ∧ n ≤ 24) ∧ l.length ≤ 768 ∧ k ≤ 6 := by
  have h1 := h n _ hF
  have h2 := h1.2 l rfl
  have h3 : k ≤ 6 := by omega
  refine ⟨?_, h1.1, h2, h3⟩
  rw [FS.node_key _ _ _ (by omega), hF]
  show FI.node (.file l) k = _
  unfold FI.node
  rw [if_neg (by omega)]
  dsimp only
  rw [if_pos ⟨h3, hk.2⟩]
set_option maxRecDepth 100000 in
set_option maxHeartbeats 4000000 in
theorem chunk_any (i : CI) (N : Nat) (F : FS) (S : Nat → Prop) (n : Int) (l : List UInt8) (k : Nat) (w : World) (h : FAt w i N F S) (hF : F n = some (.file l)) (hk : 1 ≤ k ∧ 128 * (k - 1) < l.length) :
    Calls Try.prog 70 #[.agg #[.pointer (some ⟨i.q, 0, none⟩), .int .i64 n, .int .i64 (l.length : Int)], .int .i64 (k : Int)] w fun e w' => ∃ z A c, Hid ((chunkL l (k - 1)).length = z) ∧ e = .returned (.tuple #[.slice A z c, .int .i64 0]) ∧ Own 5 w' w.heap.size (.slice A z c) (chunkL l (k - 1)) ∧ Below w.heap.size w w' := by
  obtain ⟨n1, n2, n3, n4⟩ := node_chunk h.ok hF hk
  obtain ⟨z, hz⟩ : ∃ z, (chunkL l (k - 1)).length = z := ⟨_, rfl⟩
  have HZ := Lib.hid hz
  have hlen : lenN k l.length = z := by
    rw [← hz, chunkL_len]
    unfold lenN endN begN
    omega
  have b1 := Lib.hid ((Below.refl w.heap.size w).alloc (Nat.le_refl _) (.cells #[.pointer (some ⟨i.q, 0, none⟩), .int .i64 n, .int .i64 (l.length : Int)] 101))
  have B1 := Lib.hid (Blk.new3c w (.pointer (some ⟨i.q, 0, none⟩)) (.int .i64 n) (.int .i64 (l.length : Int)) 101)
  have H1 := Lib.hid (h.after b1.out)
  have KK := Lib.hid (fun w => key_any n (k : Int) w)
  have hkey : keyOf n (k : Int) = 8 * n + (k : Int) := by
    unfold keyOf
    rw [if_pos (by omega)]
  rw [hkey] at KK
  have hwf : (Lit.int .i64 (8 * n + (k : Int))).wf = true := wfC ⟨by omega, by omega⟩
  have KG : Hid (∀ w2, FAt w2 i N F S → Calls Try.prog 22 #[.pointer (some ⟨i.q, 0, none⟩), .int .i64 (8 * n + (k : Int))] w2 fun e w' => GetC w2 (some (chunkL l (k - 1))) e w') := Lib.hid (fun w2 h2 => by
    have := get_fat i N F S (8 * n + (k : Int)) w2 h2 hwf
    rwa [n1] at this)
  have KL := Lib.hid (fun w => length_any k l.length w ⟨hk.1, by omega⟩ n3)
  rw [hlen] at KL
  obtain ⟨L, hL⟩ : ∃ L, L = chunkL l (k - 1) := ⟨_, rfl⟩
  rw [← hL] at KG HZ ⊢
  obtain ⟨K, hK⟩ : ∃ K, K = 8 * n + (k : Int) := ⟨_, rfl⟩
  rw [← hK] at KK KG
  obtain ⟨sz, hsz⟩ : ∃ sz, sz = (l.length : Int) := ⟨_, rfl⟩
  rw [← hsz] at b1 B1 H1 KL ⊢
  clear hF hk n1 n2 n3 n4 hz hlen hkey hwf hL hK hsz h
  go_enter Try.func70, Try.ntmps70
  go_wp2_with fail
  obtain ⟨W1, hW1⟩ : ∃ W1, W1 = w.alloc (.cells #[.pointer (some ⟨i.q, 0, none⟩), .int .i64 n, .int .i64 sz] 101) := ⟨_, rfl⟩
  rw [← hW1] at b1 B1 H1 ⊢
  clear hW1
  have c0 : W1.drew.cell? ⟨w.heap.size, 0, none⟩ = some (.pointer (some ⟨i.q, 0, none⟩)) := B1.out.cell 0
  have c1 : W1.drew.cell? ⟨w.heap.size, 1, none⟩ = some (.int .i64 n) := B1.out.cell 1
  have H1d := Lib.hid H1.out.drew
  have B1d : Hid (Blk W1.drew w.heap.size 101 [.pointer (some ⟨i.q, 0, none⟩), .int .i64 n, .int .i64 sz]) := Lib.hid B1.out
  go_region_with (first
    | (go_at_call 61; (with_reducible refine (KK.out _).mono ?_); rintro e w2 ⟨rfl, rfl⟩)
    | (go_at_call 22; (with_reducible refine (KG.out _ H1d.out).mono ?_); rintro e w2 ⟨b2, A2, c2, rfl, O2⟩; have HB2 := Lib.hid b2; have HO2 := Lib.hid O2; clear b2 O2))
  all_goals
    have T1 : Hid (Below w.heap.size w W1.drew) := Lib.hid b1.out.drew
    have T2 := Lib.hid (T1.out.trans (HB2.out.mono T1.out.size))
    have O2 := Lib.hid (HO2.out.lower (base' := w.heap.size) T1.out.size)
    rw [HZ.out] at O2 ⊢
    have B2 := Lib.hid (B1d.out.after HB2.out)
    have x2 : w2.cell? ⟨w.heap.size, 2, none⟩ = some (.int .i64 sz) := B2.out.cell 2
    clear KG KK H1 B1 b1 c0 c1 H1d B1d HB2 T1 HO2
    go_wp2_with (go_at_call 58; (with_reducible refine (KL.out _).mono ?_); rintro e w3 ⟨rfl, rfl⟩)
    go_ret2
    exact ⟨z, A2, c2, HZ, rfl, O2.out, T2.out⟩
end Go.Proofs.Ytppodbijdhcclaa

/- load of file: the chunks that are asked for, each where it stands. Condition: the cache tells inodes; what is asked answers, and changes nothing. -/
namespace Go.Proofs.Ytppodbijdhcclaa
open Go Go.RowKit
theorem chunks_len (l : List UInt8) (hl : l.length ≤ 768) : ∃ C : Nat, chunksOf (l.length : Int) = (C : Int) ∧ C ≤ 6 ∧ l.length ≤ 128 * C ∧ ∀ j, j < C → 128 * j < l.length := by
  refine ⟨(l.length + 127) / 128, ?_, by omega, by omega, fun j hj => by omega⟩
  unfold chunksOf
  split <;> omega
theorem segSet_all {cs vs : List Value} (h : cs.length = vs.length) : segSet cs 0 vs = vs := by
  simp [segSet, List.drop_eq_nil_of_le (Nat.le_of_eq h)]
set_option maxRecDepth 100000 in
set_option maxHeartbeats 8000000 in
theorem load_any (i : CI) (N : Nat) (F : FS) (S : Nat → Prop) (n : Int) (l : List UInt8) (fn : Nat) (caps : Array Value) (p : Nat → Bool) (w : World) (h : FAt w i N F S) (hF : F n = some (.file l)) (en : ∀ (args : Array Value) (w : World), (callFunc fn args).run Try.prog w = .ok (.enter fn args) w)
    (hp : ∀ (k : Nat) (W : World), 1 ≤ k → 128 * (k - 1) < l.length → Below w.heap.size w W → Calls Try.prog fn (#[.int .i64 (k : Int)] ++ caps) W fun e W' => e = .returned (.bool (p k)) ∧ W = W') :
    Calls Try.prog 48 #[.agg #[.pointer (some ⟨i.q, 0, none⟩), .int .i64 n, .int .i64 (l.length : Int)], .func (.func fn) #[] caps] w fun e w' => e = .returned (.tuple #[.agg (cl (loadL l p 6)), .int .i64 0]) ∧ Below w.heap.size w w' := by
  have hl : l.length ≤ 768 := (h.ok n _ hF).2 l rfl
  obtain ⟨C, hC, hC6, hCl, hCj⟩ := chunks_len l hl
  have KC : Hid (∀ w, Calls Try.prog 56 #[.int .i64 (l.length : Int)] w fun e w' => e = .returned (.int .i64 (C : Int)) ∧ w = w') := Lib.hid (fun w => by
    have := chunks_any (l.length : Int) (by omega) w
    rwa [hC] at this)
  have KS := Lib.hid (fun (k : Nat) w (hk : 1 ≤ k ∧ k ≤ 7) => span_any k l.length w hk)
  have KH := Lib.hid (fun (k : Nat) W (hk : 1 ≤ k ∧ 128 * (k - 1) < l.length) (b : Below w.heap.size w W) => chunk_any i N F S n l k W (h.after b) hF hk)
  have HP := Lib.hid hp
  have HL := Lib.hid hl
  have HCl := Lib.hid hCl
  have HCj := Lib.hid hCj
  have z0 := zeroT
  obtain ⟨sz, hsz⟩ : ∃ sz : Int, sz = (l.length : Int) := ⟨_, rfl⟩
  have B0 := Lib.hid (Blk.new3c w (.pointer (some ⟨i.q, 0, none⟩)) (.int .i64 n) (.int .i64 sz) 101)
  obtain ⟨g, hg⟩ : ∃ g, g = w.heap.size := ⟨_, rfl⟩
  have HG := Lib.hid hg
  rw [← hsz] at KC KH ⊢
  have HSZ := Lib.hid hsz
  clear h hF hp hl hC hCl hCj hsz
  go_enter Try.func48, Try.ntmps48
  go_wp2_with fail
  rw [← hg]
  have X0 := Lib.hid ((B0.out.alloc (.cells (cl tz) 105)).alloc (.cells (cl tz) 105))
  have b1 := (Below.refl w.heap.size w).alloc (Nat.le_refl _) (.cells #[.pointer (some ⟨i.q, 0, none⟩), .int .i64 n, .int .i64 sz] 101)
  have b2 := b1.alloc b1.size (.cells (cl tz) 105)
  have T0 := Lib.hid (b2.alloc b2.size (.cells (cl tz) 105))
  obtain ⟨W1, hW1⟩ : ∃ W1, W1 = w.alloc (.cells #[.pointer (some ⟨i.q, 0, none⟩), .int .i64 n, .int .i64 sz] 101) := ⟨_, rfl⟩
  rw [← hW1] at X0 T0 ⊢
  have e1 : W1.heap.size = g + 1 := by rw [hW1, World.size_alloc, ← hg]
  have R0 : Hid (Blk ((W1.alloc (.cells (cl tz) 105)).alloc (.cells (cl tz) 105)) (g + 1) 105 (bv tz)) := Lib.hid (Blk.alloc (by rw [← e1]; exact heap_alloc_new W1 _) _)
  have A0 : Hid (Blk ((W1.alloc (.cells (cl tz) 105)).alloc (.cells (cl tz) 105)) (g + 1 + 1) 105 (bv (loadL l p 0))) := Lib.hid (by
    rw [loadL_zero]
    have := heap_alloc_new (W1.alloc (.cells (cl tz) 105)) (.cells (cl tz) 105)
    have e2 : (W1.alloc (.cells (cl tz) 105)).heap.size = g + 1 + 1 := by rw [World.size_alloc, e1]
    rw [e2] at this
    exact this)
  rw [← hg] at X0
  obtain ⟨W3, hW3⟩ : ∃ W3, W3 = (W1.alloc (.cells (cl tz) 105)).alloc (.cells (cl tz) 105) := ⟨_, rfl⟩
  rw [← hW3] at X0 T0 R0 A0 ⊢
  clear hW3 hW1 e1 b1 b2 B0 z0 hg
  go_loopw [7] (fun v wr => ∃ j : Nat, j ≤ C ∧ v = .int .i64 ((j + 1 : Nat) : Int) ∧ Hid (Blk wr g 101 [.pointer (some ⟨i.q, 0, none⟩), .int .i64 n, .int .i64 sz]) ∧ Hid (Blk wr (g + 1) 105 (bv tz)) ∧ Hid (Blk wr (g + 1 + 1) 105 (bv (loadL l p j))) ∧ Hid (Below w.heap.size w wr)) (fun v _ => 8 - (intOf v).toNat)
  case atStart => exact ⟨0, Nat.zero_le _, rfl, X0, R0, A0, T0⟩
  case round =>
    clear X0 R0 A0 T0
    obtain ⟨j, hj, rfl, hX, hR, hA, hT⟩ := hrel
    have x0 : wr.cell? ⟨g, 0, none⟩ = some (.pointer (some ⟨i.q, 0, none⟩)) := hX.out.cell 0
    have x1 : wr.cell? ⟨g, 1, none⟩ = some (.int .i64 n) := hX.out.cell 1
    have x2 : wr.cell? ⟨g, 2, none⟩ = some (.int .i64 sz) := hX.out.cell 2
    have KC1 := Lib.hid (KC.out wr)
    by_cases hlt : j < C
    · have hjl := HCj.out j hlt
      have HJ := Lib.hid (show 1 ≤ j + 1 ∧ 128 * (j + 1 - 1) < l.length from ⟨by omega, by rw [Nat.add_sub_cancel]; exact hjl⟩)
      have KP : Hid (Calls Try.prog fn (#[.int .i64 ((j : Int) + 1)] ++ caps) wr fun e W' => e = .returned (.bool (p (j + 1))) ∧ wr = W') := Lib.hid (HP.out (j + 1) wr HJ.out.1 HJ.out.2 hT.out)
      have KHK : Hid (Calls Try.prog 70 #[.agg #[.pointer (some ⟨i.q, 0, none⟩), .int .i64 n, .int .i64 sz], .int .i64 ((j : Int) + 1)] wr fun e w' => ∃ z A c, Hid ((chunkL l j).length = z) ∧ e = .returned (.tuple #[.slice A z c, .int .i64 0]) ∧ Own 5 w' wr.heap.size (.slice A z c) (chunkL l j) ∧ Below wr.heap.size wr w') := Lib.hid (KH.out (j + 1) wr HJ.out hT.out)
      have KSP : Hid (∀ w, Calls Try.prog 71 #[.int .i64 ((j : Int) + 1), .int .i64 (l.length : Int)] w fun e w' => e = .returned (.tuple #[.int .i64 (begN (j + 1) l.length : Int), .int .i64 (endN (j + 1) l.length : Int)]) ∧ w = w') := Lib.hid (fun w => KS.out (j + 1) w ⟨HJ.out.1, by omega⟩)
      have HBE : Hid (begN (j + 1) l.length = 128 * j) := Lib.hid (by unfold begN; omega)
      obtain ⟨b, hb⟩ : ∃ b, b = 128 * j := ⟨_, rfl⟩
      have HB := Lib.hid hb
      have q1 : b < 768 := by rw [hb]; have := HL.out; omega
      have q2 : (b : Int) ≤ 768 := by omega
      have q3 : ¬ 768 = b := by omega
      rw [HBE.out, ← HSZ.out, ← hb] at KSP
      obtain ⟨pb, hpb⟩ : ∃ pb, pb = p (j + 1) := ⟨_, rfl⟩
      rw [← hpb] at KP
      have HPB := Lib.hid hpb
      clear hpb hjl HJ HBE hb
      cases pb with
      | false =>
        have HN := Lib.hid (loadL_no (l := l) (k := j) HPB.out.symm)
        go_wp2_with (first
          | (go_at_call 56; (with_reducible refine KC1.out.mono ?_); rintro e w2 ⟨rfl, rfl⟩)
          | (go_at_fn fn; (with_reducible refine KP.out.mono ?_); rintro e w2 ⟨rfl, rfl⟩))
        exact ⟨⟨j + 1, by omega, by go_num, hX, hR, by rw [← HN.out]; exact hA, hT⟩, by simp [intOf]; omega⟩
      | true =>
        go_upto_region 10 with (first
          | (go_at_call 56; (with_reducible refine KC1.out.mono ?_); rintro e w2 ⟨rfl, rfl⟩)
          | (go_at_fn fn; (with_reducible refine KP.out.mono ?_); rintro e w2 ⟨rfl, rfl⟩)
          | (go_at_call 70; (with_reducible refine KHK.out.mono ?_); rintro e w4 ⟨z, A4, c4, hz4, rfl, O4, b4⟩; have HZ := Lib.hid hz4.out; have HO := Lib.hid O4; have HT4 := Lib.hid (hT.out.trans (b4.mono hT.out.size)); have HX4 := Lib.hid (hX.out.after b4); have x4 : w4.cell? ⟨g, 2, none⟩ = some (.int .i64 sz) := HX4.out.cell 2; have HR4 := Lib.hid (hR.out.after b4); have HA4 := Lib.hid (hA.out.after b4); clear hz4 O4 b4 x0 x1 x2)
          | (go_at_call 71; (with_reducible refine (KSP.out _).mono ?_); rintro e w5 ⟨rfl, rfl⟩))
        have HLN := Lib.hid (loadL_yes HL.out (HCj.out j hlt) HPB.out.symm)
        have HFT : Hid (b + (chunkL l j).length ≤ (loadL l p j).length) := Lib.hid (by rw [HB.out, chunkL_len, loadL, tab_length]; have := HL.out; have := HCj.out j hlt; omega)
        have HZM : Hid ((chunkL l j).length ≤ maxLen) := Lib.hid (by rw [chunkL_len]; unfold maxLen; omega)
        have HTK : Hid ((chunkL l j).take (768 - b) = chunkL l j) := Lib.hid (List.take_of_length_le (by rw [HB.out, chunkL_len]; have := HL.out; have := HCj.out j hlt; omega))
        rw [← HB.out] at HLN
        have HBY := Lib.hid (HO.out)
        rw [← HZ.out] at HBY
        have HBY2 := Lib.hid (HBY.out.bytes HZM.out)
        rw [HZ.out] at HBY2
        go_wp2_with (refine wpl_copy byteTys rfl (.tmp 41) (.tmp 42) rfl HA4.out b (768 - b) (768 - b) rfl _ rfl _ HBY2.out HTK.out HFT.out z HZ.out ?_; intro w6 h6 g6 s6)
        rw [HLN.out] at h6
        exact ⟨⟨j + 1, by omega, by go_num, Lib.hid (HX4.out.grown g6 (by simp only [ne_eq, Option.some.injEq]; omega)), Lib.hid (HR4.out.grown g6 (by simp only [ne_eq, Option.some.injEq]; omega)), h6, Lib.hid (HT4.out.grown g6 HT4.out.size (fun q e => by cases e; have := HG.out; omega))⟩, by simp [intOf]; omega⟩
    · obtain rfl : j = C := by omega
      rw [loadL_all HCl.out] at hA
      have d1 : ¬ ((j : Int) + 1 ≤ (j : Int)) := by omega
      obtain ⟨L, hL⟩ : ∃ L, L = loadL l p 6 := ⟨_, rfl⟩
      have HN : Hid ((bv L).length = 768) := Lib.hid (by rw [hL, bv_length]; exact tab_length _)
      have HNZ : Hid ((bv tz).length = 768) := Lib.hid (by rw [bv_length]; exact tab_length _)
      have HD : Hid (((bv L).drop 0).take 768 = bv L) := Lib.hid (by rw [List.drop_zero]; exact List.take_of_length_le (Nat.le_of_eq HN.out))
      have HIL : Hid (0 + 768 ≤ (bv tz).length) := Lib.hid (by rw [HNZ.out]; exact Nat.le_refl _)
      have HS : Hid (segSet (bv tz) 0 (bv L) = bv L) := Lib.hid (segSet_all (by rw [HN.out, HNZ.out]))
      rw [← hL] at hA
      have HLL := Lib.hid hL
      clear hL
      go_wp2_with (first
        | (go_at_call 56; (with_reducible refine KC1.out.mono ?_); rintro e w2 ⟨rfl, rfl⟩)
        | (with_reducible refine wpl_seg_load aggT sizeT (.tmp 6) rfl rfl hA.out 0 (bv L) HD.out HN.out rfl ?_)
        | ((with_reducible refine wpl_seg_store sizeT (.tmp 4) (.tmp 44) rfl rfl hR.out 0 (bv L) HN.out HIL.out (fun v hv => bv_one hv) rfl rfl _ HS.out ?_); intro w4 R4 g4 e4))
      refine bodyPost_ret (sret2 aggT sizeT rfl _ R4 (i := 0) (vs := bv L) HD.out HN.out rfl) rfl ?_
      rw [← HLL.out]
      exact ⟨rfl, hT.out.grown g4 hT.out.size (fun q e => by cases e; have := HG.out; omega)⟩
end Go.Proofs.Ytppodbijdhcclaa

