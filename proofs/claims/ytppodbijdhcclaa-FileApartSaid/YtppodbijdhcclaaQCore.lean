/- Several texts of the proof, joined: what each has is said at its head. -/
import Derived.WalkKit
import Derived.Lib.Hide
import Derived.ProofKit
import Derived.OpenShut
import Derived.Deep.Slices
import Derived.Maps.AppendAt
import Derived.Test.YtppodbijdhcclaaProg
import Derived.Deep.WholeRow
import Derived.BigFrame
import Derived.Laws.CopyRow
import Derived.Deep.RegionHeld3
import Derived.StillTailTactics
/- Words for memory: what slices of values, slices of bytes, and lists of slices of bytes read as, and that it stays while nothing below a block is written. No condition. -/
namespace Go.Proofs.Ytppodbijdhcclaa
open Go.RowKit

theorem add_block (a : Addr) (n : Nat) : (a.add n).block = a.block := by unfold Addr.add; split <;> rfl
theorem add_twice (a : Addr) (i j : Nat) : (a.add i).add j = a.add (i + j) := by
  unfold Addr.add
  by_cases hi : i = 0 <;> by_cases hj : j = 0 <;> simp [hi, hj, Nat.add_assoc]

/-- behind the address A, below block B, lie the cells xs -/
def Row (w : World) (B : Nat) (A : Option Addr) (xs : List Value) : Prop :=
  ∀ j u, xs[j]? = some u → ∃ a, A = some a ∧ a.block < B ∧ w.cell? (a.add j) = some u
def bv (l : List UInt8) : List Value := l.map fun b => Value.int .u8 (b.toNat : Int)
/-- v is a slice of the bytes l -/
def Bytes (w : World) (B : Nat) (v : Value) (l : List UInt8) : Prop :=
  ∃ A c, v = .slice A l.length c ∧ l.length ≤ c ∧ c ≤ maxLen ∧ Row w B A (bv l)
/-- the values vs are slices of the bytes L, one by one -/
def Each (w : World) (B : Nat) (vs : List Value) (L : List (List UInt8)) : Prop :=
  vs.length = L.length ∧ ∀ (i : Nat) (v : Value), vs[i]? = some v → ∃ l, L[i]? = some l ∧ Bytes w B v l
/-- v is a slice of slices of the bytes L, one by one -/
def Parts (w : World) (B : Nat) (v : Value) (L : List (List UInt8)) : Prop :=
  ∃ A c vs, v = .slice A vs.length c ∧ Row w B A vs ∧ Each w B vs L ∧ vs.length ≤ maxLen

section
variable {w w' : World} {B B' : Nat} {A : Option Addr} {xs : List Value} {v : Value} {l : List UInt8} {vs : List Value} {L : List (List UInt8)}
theorem bv_length (l : List UInt8) : (bv l).length = l.length := by simp [bv]
theorem bv_get {k : Nat} (h : k < l.length) : (bv l)[k]? = some (.int .u8 (l[k].toNat : Int)) := by simp [bv, h]
theorem bv_append (l m : List UInt8) : bv (l ++ m) = bv l ++ bv m := by simp [bv]
theorem bv_one {u : Value} (h : u ∈ bv l) : u.oneCell' = true := by
  simp only [bv, List.mem_map] at h
  obtain ⟨b, _, rfl⟩ := h
  rfl
theorem Row.nil : Row w B A [] := fun j u h => by simp at h
theorem Row.at_ (h : Row w B A xs) {k : Nat} (hk : k < xs.length) : ∃ a, A = some a ∧ a.block < B ∧ w.cell? (a.add k) = some xs[k] := h k _ (List.getElem?_eq_getElem hk)
theorem Row.keep (h : Row w B A xs) (hk : ∀ p : Addr, p.block < B → w'.cell? p = w.cell? p) : Row w' B A xs := fun j u hu => by
  obtain ⟨a, e, hb, hc⟩ := h j u hu
  exact ⟨a, e, hb, (hk _ (by rw [add_block]; exact hb)).trans hc⟩
theorem Row.more (h : Row w B A xs) (hB : B ≤ B') : Row w B' A xs := fun j u hu => by
  obtain ⟨a, e, hb, hc⟩ := h j u hu
  exact ⟨a, e, by omega, hc⟩
theorem Row.below (h : Row w B A xs) (hb : Below B w w') : Row w' B A xs := h.keep fun _ hp => hb.cell hp
theorem Bytes.keep (h : Bytes w B v l) (hk : ∀ p : Addr, p.block < B → w'.cell? p = w.cell? p) : Bytes w' B v l := by
  obtain ⟨A, c, e, h1, h2, h3⟩ := h
  exact ⟨A, c, e, h1, h2, h3.keep hk⟩
theorem Bytes.more (h : Bytes w B v l) (hB : B ≤ B') : Bytes w B' v l := by
  obtain ⟨A, c, e, h1, h2, h3⟩ := h
  exact ⟨A, c, e, h1, h2, h3.more hB⟩
theorem Bytes.below (h : Bytes w B v l) (hb : Below B w w') : Bytes w' B v l := h.keep fun _ hp => hb.cell hp
theorem Each.keep (h : Each w B vs L) (hk : ∀ p : Addr, p.block < B → w'.cell? p = w.cell? p) : Each w' B vs L :=
  ⟨h.1, fun i v hv => by obtain ⟨l, hl, hb⟩ := h.2 i v hv; exact ⟨l, hl, hb.keep hk⟩⟩
theorem Each.more (h : Each w B vs L) (hB : B ≤ B') : Each w B' vs L :=
  ⟨h.1, fun i v hv => by obtain ⟨l, hl, hb⟩ := h.2 i v hv; exact ⟨l, hl, hb.more hB⟩⟩
theorem Each.below (h : Each w B vs L) (hb : Below B w w') : Each w' B vs L := h.keep fun _ hp => hb.cell hp
theorem Each.at_ (h : Each w B vs L) {k : Nat} (hk : k < vs.length) : ∃ l, L[k]? = some l ∧ Bytes w B vs[k] l := h.2 k _ (List.getElem?_eq_getElem hk)
theorem Each.nil : Each w B [] [] := ⟨rfl, fun i v h => by simp at h⟩
theorem Each.cons {v : Value} {l : List UInt8} (h : Bytes w B v l) (hs : Each w B vs L) : Each w B (v :: vs) (l :: L) :=
  ⟨by simp [hs.1], fun i u hu => by
    cases i with
    | zero =>
      simp only [List.getElem?_cons_zero, Option.some.injEq] at hu
      subst hu
      exact ⟨l, by simp, h⟩
    | succ i =>
      obtain ⟨m, hm, hb⟩ := hs.2 i u (by simpa using hu)
      exact ⟨m, by simpa using hm, hb⟩⟩
theorem Parts.keep (h : Parts w B v L) (hk : ∀ p : Addr, p.block < B → w'.cell? p = w.cell? p) : Parts w' B v L := by
  obtain ⟨A, c, vs, e, h1, h2, h3⟩ := h
  exact ⟨A, c, vs, e, h1.keep hk, h2.keep hk, h3⟩
theorem Parts.more (h : Parts w B v L) (hB : B ≤ B') : Parts w B' v L := by
  obtain ⟨A, c, vs, e, h1, h2, h3⟩ := h
  exact ⟨A, c, vs, e, h1.more hB, h2.more hB, h3⟩
theorem Parts.below (h : Parts w B v L) (hb : Below B w w') : Parts w' B v L := h.keep fun _ hp => hb.cell hp
theorem Parts.nil (c : Nat) : Parts w B (.slice none 0 c) [] := ⟨none, c, [], rfl, Row.nil, Each.nil, by simp⟩
/-- the cells of a new block -/
theorem Row.new (w : World) (C : Array Value) (t : TypeId) (fr : Nat × Nat) (g : Nat) (hg : g = w.heap.size) (hB : g < B) : Row (w.alloc (.cells C t fr)) B (some ⟨g, 0, none⟩) C.toList := fun j u hu => by
  subst hg
  refine ⟨_, rfl, hB, ?_⟩
  have hadd : (⟨w.heap.size, 0, none⟩ : Addr).add j = ⟨w.heap.size, j, none⟩ := by unfold Addr.add; split <;> simp_all
  rw [hadd, World.cell?_alloc_mark]
  simpa using hu
theorem Row.alloc (h : Row w B A xs) (hB : B ≤ w.heap.size) (o : Obj) : Row (w.alloc o) B A xs := h.below ((Below.refl B w).alloc hB o)
theorem Bytes.alloc (h : Bytes w B v l) (hB : B ≤ w.heap.size) (o : Obj) : Bytes (w.alloc o) B v l := h.below ((Below.refl B w).alloc hB o)
theorem Each.alloc (h : Each w B vs L) (hB : B ≤ w.heap.size) (o : Obj) : Each (w.alloc o) B vs L := h.below ((Below.refl B w).alloc hB o)
theorem Parts.alloc (h : Parts w B v L) (hB : B ≤ w.heap.size) (o : Obj) : Parts (w.alloc o) B v L := h.below ((Below.refl B w).alloc hB o)
/-- a list of slices just built -/
theorem Parts.new (h : Each w B vs L) (hB : B ≤ w.heap.size) (hl : vs.length ≤ maxLen) (n : Nat) (hn : vs.length = n) (g : Nat) (hg : g = w.heap.size) (B' : Nat) (hB' : g < B') (t : TypeId) (C : Array Value) (hC : C.toList = vs) :
    Parts (w.alloc (.cells C t)) B' (.slice (some ⟨g, 0, none⟩) n n) L := by
  subst hn hC
  exact ⟨_, _, C.toList, rfl, Row.new w C t (0, 0) g hg hB', (h.alloc hB _).more (by omega), hl⟩
/-- bytes just built -/
theorem Bytes.lit (w : World) (l : List UInt8) (n : Nat) (hn : l.length = n) (hl : n ≤ maxLen) (C : Array Value) (hC : C.toList = bv l) (t : TypeId) (fr : Nat × Nat) (g : Nat) (hg : g = w.heap.size) (B' : Nat) (hB' : g < B') :
    Bytes (w.alloc (.cells C t fr)) B' (.slice (some ⟨g, 0, none⟩) n n) l := by
  subst hn
  exact ⟨_, _, rfl, Nat.le_refl _, hl, hC ▸ Row.new w C t fr g hg hB'⟩
/-- v is a slice of slices whose bytes, one behind the other, are l -/
def Joined (w : World) (B : Nat) (v : Value) (l : List UInt8) : Prop := ∃ L, Parts w B v L ∧ L.flatten = l
theorem Joined.keep (h : Joined w B v l) (hk : ∀ p : Addr, p.block < B → w'.cell? p = w.cell? p) : Joined w' B v l := by
  obtain ⟨L, h1, h2⟩ := h
  exact ⟨L, h1.keep hk, h2⟩
theorem Joined.nil (c : Nat) : Joined w B (.slice none 0 c) [] := ⟨[], Parts.nil c, rfl⟩
theorem Joined.one {u : Value} (h : Bytes w B u l) (hB : B ≤ w.heap.size) (g : Nat) (hg : g = w.heap.size) (B' : Nat) (hB' : g < B') (t : TypeId) : Joined (w.alloc (.cells #[u] t)) B' (.slice (some ⟨g, 0, none⟩) 1 1) l :=
  ⟨[l], Parts.new (Each.cons h Each.nil) hB (by simp [maxLen]) 1 rfl g hg B' hB' t _ rfl, by simp⟩
theorem Joined.two {u v : Value} {m : List UInt8} (h : Bytes w B u l) (k : Bytes w B v m) (hB : B ≤ w.heap.size) (g : Nat) (hg : g = w.heap.size) (B' : Nat) (hB' : g < B') (t : TypeId) : Joined (w.alloc (.cells #[u, v] t)) B' (.slice (some ⟨g, 0, none⟩) 2 2) (l ++ m) :=
  ⟨[l, m], Parts.new (Each.cons h (Each.cons k Each.nil)) hB (by simp [maxLen]) 2 rfl g hg B' hB' t _ rfl, by simp⟩
theorem Joined.three {u v x : Value} {m n : List UInt8} (h : Bytes w B u l) (k : Bytes w B v m) (j : Bytes w B x n) (hB : B ≤ w.heap.size) (g : Nat) (hg : g = w.heap.size) (B' : Nat) (hB' : g < B') (t : TypeId) : Joined (w.alloc (.cells #[u, v, x] t)) B' (.slice (some ⟨g, 0, none⟩) 3 3) (l ++ (m ++ n)) :=
  ⟨[l, m, n], Parts.new (Each.cons h (Each.cons k (Each.cons j Each.nil))) hB (by simp [maxLen]) 3 rfl g hg B' hB' t _ rfl, by simp⟩
theorem take_snoc {α : Type} (l : List α) {k : Nat} {x : α} (h : l[k]? = some x) : l.take (k + 1) = l.take k ++ [x] := by
  have hk : k < l.length := by
    rcases Nat.lt_or_ge k l.length with h' | h'
    · exact h'
    · rw [List.getElem?_eq_none h'] at h; cases h
  rw [List.take_succ_eq_append_getElem hk]
  rw [List.getElem?_eq_getElem hk] at h
  rw [Option.some.inj h]
theorem get_lt {α : Type} {l : List α} {k : Nat} {x : α} (h : l[k]? = some x) : k < l.length := by
  rcases Nat.lt_or_ge k l.length with h' | h'
  · exact h'
  · rw [List.getElem?_eq_none h'] at h; cases h
end
theorem u32_of_wf {s : Int} (h : (Lit.int .u32 s).wf = true) : ∃ n : Nat, s = n ∧ n < 4294967296 := by
  simp only [Lit.wf, Bool.and_eq_true, IntKind.min, IntKind.max, IntKind.signed, IntKind.bits] at h
  simp at h
  exact ⟨s.toNat, by omega, by omega⟩
theorem u16_of_wf {s : Int} (h : (Lit.int .u16 s).wf = true) : ∃ n : Nat, s = n ∧ n < 65536 := by
  simp only [Lit.wf, Bool.and_eq_true, IntKind.min, IntKind.max, IntKind.signed, IntKind.bits] at h
  simp at h
  exact ⟨s.toNat, by omega, by omega⟩
end Go.Proofs.Ytppodbijdhcclaa

/- What an argument that came in reads as: a slice of bytes, of integers, of slices of bytes. No condition. -/
namespace Go.Proofs.Ytppodbijdhcclaa
open Go.RowKit Go.ChangeShapes Go.WideShapes Go.ChangeAt

/-- v is a slice of the integers zs of kind k -/
def Nums (w : World) (B : Nat) (k : IntKind) (v : Value) (zs : List Int) : Prop :=
  ∃ A c, v = .slice A zs.length c ∧ zs.length ≤ c ∧ c ≤ maxLen ∧ Row w B A (zs.map (Value.int k)) ∧ ∀ z ∈ zs, (Lit.int k z).wf = true

section
variable {H : Type} {enc : TypeId × Value → H} {P : Program} {w : World} {r : Reach} {base b0 : Nat} {spare : Nat → Bool} {held : Bool} {t e e2 : TypeId} {v : Value} {d : DataW H} {ps : List MemPlace} {k : IntKind}

theorem nums_cells {fuel : Nat} {x : DataW H × List MemPlace} (ht : P.underlying t = some (.slice e)) (he : P.underlying e = some (.int k)) (hc : P.cellsOf e = 1) (h : DataW.trod enc P w base spare held fuel t [v] = some x) :
    ∃ zs, Nums w w.heap.size k v zs := by
  rcases open_ints ht he hc h with ⟨hcs, _⟩ | ⟨a, len, cap, zs, hcs, _, hl, hm, hz, _, hcell, hwz⟩
  · simp only [List.cons.injEq, and_true] at hcs
    subst hcs
    exact ⟨[], none, 0, rfl, by simp, by simp [maxLen], Row.nil, by simp⟩
  · simp only [List.cons.injEq, and_true] at hcs
    subst hcs
    have hle : len ≤ zs.length := by rw [hz]; split <;> omega
    refine ⟨zs.take len, some a, cap, by rw [List.length_take_of_le hle], by rw [List.length_take_of_le hle]; exact hl, hm, ?_, fun z hzm => hwz z (List.mem_of_mem_take hzm)⟩
    intro j u hu
    have hj : j < (zs.take len).length := by
      have := get_lt hu
      simpa using this
    have hjl : j < zs.length := by
      rw [List.length_take] at hj
      omega
    have hc' := hcell j hjl
    refine ⟨a, rfl, ?_, ?_⟩
    · have := World.block_lt_of_cell? w _ hc'
      rwa [add_block] at this
    · rw [hc']
      rw [List.length_take] at hj
      have hjn : j < len := by omega
      simp only [List.getElem?_map, List.getElem?_take, hjn, if_true, List.getElem?_eq_getElem hjl, Option.map_some, Option.some.injEq] at hu
      rw [← hu]
      simp [List.getD, List.getElem?_eq_getElem hjl]
theorem bytes_nums (h : ∃ zs, Nums w w.heap.size .u8 v zs) : ∃ l, Bytes w w.heap.size v l := by
  obtain ⟨zs, A, c, rfl, hl, hm, hr, hw⟩ := h
  refine ⟨zs.map fun z => UInt8.ofNat z.toNat, A, c, by simp, by simpa using hl, hm, ?_⟩
  have : bv (zs.map fun z => UInt8.ofNat z.toNat) = zs.map (Value.int .u8) := by
    unfold bv
    rw [List.map_map]
    refine List.map_congr_left fun z hz => ?_
    have hwz := hw z hz
    simp only [Lit.wf, Bool.and_eq_true, IntKind.min, IntKind.max, IntKind.signed, IntKind.bits] at hwz
    simp only [Function.comp_apply, UInt8.toNat_ofNat']
    congr 1
    simp at hwz
    omega
  rw [this]
  exact hr

theorem open_nums (ht : P.underlying t = some (.slice e)) (he : P.underlying e = some (.int k)) (hc : P.cellsOf e = 1) (hval : Value.okWide P w r b0 t v) (h : DataW.Trod enc P w base spare held t v d ps) : ∃ zs, Nums w w.heap.size k v zs := by
  obtain ⟨a, len, cap, rfl⟩ := okWide_slice ht hval
  obtain ⟨fuel, hf⟩ := h
  exact nums_cells ht he hc hf
theorem open_bytes (ht : P.underlying t = some (.slice e)) (he : P.underlying e = some (.int .u8)) (hc : P.cellsOf e = 1) (hval : Value.okWide P w r b0 t v) (h : DataW.Trod enc P w base spare held t v d ps) : ∃ l, Bytes w w.heap.size v l :=
  bytes_nums (open_nums ht he hc hval h)
theorem open_parts (ht : P.underlying t = some (.slice e)) (he : P.underlying e = some (.slice e2)) (he2 : P.underlying e2 = some (.int .u8)) (hc : P.cellsOf e = 1) (hc2 : P.cellsOf e2 = 1) (hval : Value.okWide P w r b0 t v)
    (h : DataW.Trod enc P w base spare held t v d ps) : ∃ L, Parts w w.heap.size v L := by
  obtain ⟨a, len, cap, rfl⟩ := okWide_slice ht hval
  obtain ⟨fuel, hf⟩ := h
  have hf' : DataW.trod enc P w base spare held fuel t [.slice a len cap] = some (d, ps) := hf
  rcases Deep.open_slice1 ht hc hf' with ⟨hcs, _⟩ | ⟨a', len', cap', m, n, V, D, Pl, hcs, _, hl, hm, hmm, _, hel⟩
  · simp only [List.cons.injEq, and_true] at hcs
    rw [hcs]
    exact ⟨[], Parts.nil 0⟩
  · simp only [List.cons.injEq, and_true, Value.slice.injEq] at hcs
    obtain ⟨rfl, rfl, rfl⟩ := hcs
    have hle : len ≤ m := by rw [hmm]; split <;> omega
    obtain ⟨f, hfb⟩ := Deep.choose_lt (α := List UInt8) (n := len) (p := fun i l => Bytes w w.heap.size (V i) l) fun i hi => bytes_nums (nums_cells he he2 hc2 (hel i (by omega)).2)
    refine ⟨(List.range len).map f, some a', cap, (List.range len).map V, by simp, ?_, ⟨by simp, ?_⟩, by simp; omega⟩
    · intro j u hu
      have hj : j < len := by have := get_lt hu; simpa using this
      have hc' := (hel j (by omega)).1
      refine ⟨a', rfl, ?_, ?_⟩
      · have := World.block_lt_of_cell? w _ hc'
        rwa [add_block] at this
      · rw [hc', ← hu]
        simp [hj]
    · intro i u hu
      have hj : i < len := by have := get_lt hu; simpa using this
      refine ⟨f i, by simp [hj], ?_⟩
      have : V i = u := by simpa [hj] using hu
      rw [← this]
      exact hfb i hj
end
end Go.Proofs.Ytppodbijdhcclaa

/- Slices that a call makes itself, byte by byte: what append and make leave. No condition. -/
namespace Go.Proofs.Ytppodbijdhcclaa
open Go.RowKit

/-- t is a slice type of elements e, each one cell with zero z and so many bytes -/
structure OneCell (P : Program) (t e : TypeId) (z : Value) (bytes : Nat) : Prop where
  ht : P.underlying t = some (.slice e)
  hi : ∃ i, P.info? e = some i ∧ i.zero = some z ∧ i.size = 1 ∧ i.bytes = bytes
  hz : z.cells.size = 1
theorem OneCell.mk' {P : Program} {t e : TypeId} {z : Value} {bytes : Nat} (ht : P.underlying t = some (.slice e)) (h : (P.info? e).map (fun i => (i.zero, i.size, i.bytes)) = some (some z, 1, bytes)) (hz : z.cells.size = 1) : OneCell P t e z bytes := by
  obtain ⟨i, a, b, c, d⟩ := info_parts h
  exact ⟨ht, ⟨i, a, b, c, d⟩, hz⟩

section
variable {P : Program} {w : World} {base : Nat} {t e : TypeId} {z : Value} {bytes : Nat} {v : Value} {xs : List Value}

/-- what append of a row that is read leaves, nil or not -/
theorem run_append_row (hT : OneCell P t e z bytes) (ty : TypeId) (n : Nat) (hown : w.ownsRow base e 1 v n xs) (B : Nat) (A : Option Addr) (c : Nat) (news : List Value) (m : Nat) (hm : news.length = m) (hr : Row w B A news)
    (h1 : ∀ u ∈ news, u.oneCell' = true) (h63 : n + m ≤ maxLen) (hb : (n + m) * bytes ≤ 140737488355328) (hbase : base ≤ w.heap.size) :
    ∃ v' w', (Builtin.append_ #[t, t] ty #[v, .slice A m c]).run P w = .ok v' w' ∧ w'.ownsRow base e 1 v' (n + m) (xs ++ news) ∧ w.grownBy w' v.ownBlock ∧ (v'.ownBlock = v.ownBlock ∨ v'.ownBlock = some w.heap.size) := by
  obtain ⟨i, hi, hz, hs, hby⟩ := hT.hi
  cases A with
  | some a =>
    have hc : ∀ j u, news[j]? = some u → w.cell? (a.add j) = some u := fun j u hu => by
      obtain ⟨a', ea, _, hc⟩ := hr j u hu
      cases ea
      exact hc
    obtain ⟨v', w', r1, r2, r3, _, r5⟩ := run_append_own_at (P := P) w base t ty e i z 1 bytes hT.ht hi hz hs hby hT.hz (by decide) v n xs hown a m c news (by omega) hc h1 h63 hb hbase
    exact ⟨v', w', r1, r2, r3, r5⟩
  | none =>
    have hn : news = [] := by
      cases news with
      | nil => rfl
      | cons u r =>
        obtain ⟨a, ea, _⟩ := hr 0 u rfl
        cases ea
    subst hn
    obtain rfl : m = 0 := by simpa using hm.symm
    refine ⟨v, w, ?_, by simpa using hown, World.grownBy.refl w _, .inl rfl⟩
    rcases hown.2 with ⟨rfl, rfl⟩ | ⟨g, cap, cur, rfl, _, _, hnc, _⟩
    · simp [Builtin.append_, run_underlying hT.ht, sizeOf, typeInfo, hi, Builtin.lenOf, Builtin.firstCells]
    · simp [Builtin.append_, run_underlying hT.ht, sizeOf, typeInfo, hi, Builtin.lenOf, Builtin.firstCells, hnc, storeCells]

/-- the same, at the operation -/
theorem wpl_append {ops : Array Oper} {rest : List Oper} {o : Oper} {a : Act} {Q : Exit → Act → World → Prop} (hT : OneCell P t e z bytes) (hgd : Region.wanted o (yielded ops a.tmps) = true) (s x : Operand)
    (ho : o.op = .call { callee := .builtin .append, args := #[s, x], argTypes := #[t, t] })
    (n : Nat) (hs : a.eval s = v) (hown : w.ownsRow base e 1 v n xs) (B : Nat) (A : Option Addr) (c : Nat) (news : List Value) (m : Nat) (hm : news.length = m) (hx : a.eval x = .slice A m c) (hr : Row w B A news)
    (h1 : ∀ u ∈ news, u.oneCell' = true) (h63 : n + m ≤ maxLen) (hb : (n + m) * bytes ≤ 140737488355328) (hbase : base ≤ w.heap.size)
    (h : ∀ v' w', w'.ownsRow base e 1 v' (n + m) (xs ++ news) → w.grownBy w' v.ownBlock → (v'.ownBlock = v.ownBlock ∨ v'.ownBlock = some w.heap.size) → wpList P ops Q rest (a.put o.dst v') w') :
    wpList P ops Q (o :: rest) a w := by
  obtain ⟨v', w', hrun, h2, h3, h4⟩ := run_append_row hT o.type n hown B A c news m hm hr h1 h63 hb hbase
  refine BigFrame.wpList_want hgd fun K hK => ?_
  unfold Oper.wp execOp
  simp only [ho, resolve, invoke, builtin, Sem.run_bind, Sem.run_pure, Result.andThen_ok, List.map_toArray, List.map_cons, List.map_nil, hs, hx, hrun]
  exact hK _ _ (h v' w' h2 h3 h4)
end

theorem ownsRow_shape {w : World} {base : Nat} {e : TypeId} {v : Value} {n : Nat} {xs : List Value} (h : w.ownsRow base e 1 v n xs) : ∃ A c, v = .slice A n c ∧ n ≤ c ∧ c ≤ maxLen := by
  rcases h.2 with ⟨rfl, h0⟩ | ⟨g, cap, cur, rfl, _, _, hn, hcap, _⟩
  · exact ⟨none, 0, by rw [h0], by omega, by simp [maxLen]⟩
  · exact ⟨_, cap, rfl, hn, hcap⟩
theorem ownsRow_row {w : World} {base : Nat} {e : TypeId} {A : Option Addr} {n c : Nat} {xs : List Value} (h : w.ownsRow base e 1 (.slice A n c) n xs) : Row w w.heap.size A xs := fun j u hu => by
  have hlt := h.lt
  have hc : ∀ {g : Nat}, (Value.slice A n c).ownBlock = some g → ∀ j u, xs[j]? = some u → w.cell? ((⟨g, 0, none⟩ : Addr).add j) = some u := fun hg => World.ownsRow.cells h hg
  rcases h.2 with ⟨hv, h0⟩ | ⟨g, cap, cur, hv, _, _, _, _⟩
  · have hx := h.1
    rw [h0] at hx
    have : xs = [] := List.eq_nil_of_length_eq_zero (by simpa using hx)
    subst this
    simp at hu
  · cases hv
    exact ⟨_, rfl, (hlt g rfl).2, hc rfl j u hu⟩
/-- append of values that are read, the result written out -/
theorem wpl_append_vals {P : Program} {w : World} {base : Nat} {t e : TypeId} {z : Value} {bytes : Nat} {v : Value} {xs : List Value} {ops : Array Oper} {rest : List Oper} {o : Oper} {a : Act} {Q : Exit → Act → World → Prop} (hT : OneCell P t e z bytes) (hgd : Region.wanted o (yielded ops a.tmps) = true) (s x : Operand)
    (ho : o.op = .call { callee := .builtin .append, args := #[s, x], argTypes := #[t, t] })
    (n : Nat) (hs : a.eval s = v) (hown : w.ownsRow base e 1 v n xs) (B : Nat) (A : Option Addr) (c : Nat) (news : List Value) (m : Nat) (hm : news.length = m) (hx : a.eval x = .slice A m c) (hr : Row w B A news)
    (h1 : ∀ u ∈ news, u.oneCell' = true) (hb : (n + m) * bytes ≤ 140737488355328) (h63 : n + m ≤ maxLen) (hbase : base ≤ w.heap.size) (k : Nat) (hk : n + m = k)
    (h : ∀ A' c' w', w'.ownsRow base e 1 (.slice A' k c') k (xs ++ news) → w.grownBy w' v.ownBlock → (.slice A' k c' : Value).ownBlock = v.ownBlock ∨ (.slice A' k c' : Value).ownBlock = some w.heap.size → wpList P ops Q rest (a.put o.dst (.slice A' k c')) w') :
    wpList P ops Q (o :: rest) a w := by
  refine wpl_append (v := v) (base := base) (xs := xs) hT hgd s x ho n hs hown B A c news m hm hx hr h1 h63 hb hbase ?_
  intro v' w' h1 h2 h3
  obtain ⟨A', c', rfl, _, _⟩ := ownsRow_shape h1
  subst hk
  exact h A' c' w' h1 h2 h3

/-- v is a slice of the call's own (blocks from base on), of the bytes l, e being the bytes' type -/
def Own (e : TypeId) (w : World) (base : Nat) (v : Value) (l : List UInt8) : Prop := w.ownsRow base e 1 v l.length (bv l)

section
variable {P : Program} {w w' : World} {base : Nat} {t e : TypeId} {v : Value} {l : List UInt8}
theorem Own.empty : Own e w base (.slice none 0 0) [] := World.ownsRow_nil w base e 1
theorem Own.made (cur : Array Value) (cap : Nat) (hb : base ≤ w.heap.size) (hm : cap ≤ maxLen) (hs : cur.size = cap) (g : Nat) (hg : g = w.heap.size) : Own e (w.alloc (.cells cur e)) base (.slice (some ⟨g, 0, none⟩) 0 cap) [] := by
  subst hg
  exact World.ownsRow_made (size := 1) w cur cap hb hm (by omega)
theorem Own.bytes (h : Own e w base v l) (hl : l.length ≤ maxLen) : Bytes w w.heap.size v l := by
  have hlt := h.lt
  have hc : ∀ {g : Nat}, v.ownBlock = some g → ∀ j u, (bv l)[j]? = some u → w.cell? ((⟨g, 0, none⟩ : Addr).add j) = some u := fun hg => World.ownsRow.cells h hg
  rcases h.2 with ⟨rfl, h0⟩ | ⟨g, cap, cur, rfl, _, _, hn, hcap, _⟩
  · have : l = [] := List.eq_nil_of_length_eq_zero h0
    subst this
    exact ⟨none, 0, rfl, Nat.le_refl _, by simp [maxLen], Row.nil⟩
  · exact ⟨some ⟨g, 0, none⟩, cap, rfl, hn, hcap, fun j u hu => ⟨_, rfl, (hlt g rfl).2, hc rfl j u hu⟩⟩
theorem Own.shape (h : Own e w base v l) : ∃ A c, v = .slice A l.length c ∧ l.length ≤ c ∧ c ≤ maxLen := by
  rcases h.2 with ⟨rfl, h0⟩ | ⟨g, cap, cur, rfl, _, _, hn, hcap, _⟩
  · exact ⟨none, 0, by rw [h0], by omega, by simp [maxLen]⟩
  · exact ⟨_, cap, rfl, hn, hcap⟩
/-- where a slice of the call's own that holds something lies, and what a walk asks of it -/
theorem Own.addr {A : Option Addr} {n c : Nat} (h : Own e w base (.slice A n c) l) (hn : 0 < l.length) : ∃ g, A = some ⟨g, 0, none⟩ ∧ base ≤ g ∧ g < w.heap.size := by
  have hlt := h.lt
  rcases h.2 with ⟨hv, h0⟩ | ⟨g, cap, cur, hv, _, _, _, _⟩
  · omega
  · cases hv
    exact ⟨g, rfl, hlt g rfl⟩
theorem Own.addr' {A : Option Addr} {n c : Nat} (h : Own e w base (.slice A n c) l) {x : Nat} (hn : (.slice A n c : Value).ownBlock = some x) : A = some ⟨x, 0, none⟩ ∧ base ≤ x ∧ x < w.heap.size := by
  have hlt := h.lt x hn
  rcases h.2 with ⟨hv, h0⟩ | ⟨g, cap, cur, hv, _, _, _, _⟩
  · cases hv
    cases hn
  · cases hv
    cases hn
    exact ⟨rfl, hlt⟩
theorem Own.len {A : Option Addr} {n c : Nat} (h : Own e w base (.slice A n c) l) : n = l.length := by
  rcases h.2 with ⟨hv, h0⟩ | ⟨g, cap, cur, hv, _, _, _, _⟩
  · cases hv
    exact h0.symm
  · cases hv
    rfl
theorem Own.cell {g n c : Nat} (h : Own e w base (.slice (some ⟨g, 0, none⟩) n c) l) {j : Nat} {b : UInt8} (hj : l[j]? = some b) : w.cell? ⟨g, j, none⟩ = some (.int .u8 (b.toNat : Int)) := by
  have hlt := get_lt hj
  obtain rfl := h.len
  have h' := World.ownsRow.cellAt h j (by omega)
  rw [h', bv_get hlt]
  rw [List.getElem?_eq_getElem hlt] at hj
  rw [Option.some.inj hj]
theorem Own.free {g n c : Nat} (h : Own e w base (.slice (some ⟨g, 0, none⟩) n c) l) (j : Nat) : w.frozen? ⟨g, j, none⟩ = false := by
  obtain rfl := h.len
  exact World.ownsRow.frozenAt h j
theorem Own.set {g n c : Nat} (h : Own e w base (.slice (some ⟨g, 0, none⟩) n c) l) (j : Nat) (b : UInt8) : Own e (w.setCell ⟨g, j, none⟩ (.int .u8 (b.toNat : Int))) base (.slice (some ⟨g, 0, none⟩) n c) (l.set j b) := by
  obtain rfl := h.len
  have h' := (World.ownsRow.stored h j (.int .u8 (b.toNat : Int))).1
  unfold Own
  rw [List.length_set]
  have : bv (l.set j b) = (bv l).set j (.int .u8 (b.toNat : Int)) := by simp [bv, List.map_set]
  rw [this]
  exact h'
theorem Own.alloc (h : Own e w base v l) (o : Obj) : Own e (w.alloc o) base v l := World.ownsRow.alloc h o
theorem Own.kept {row : Option Nat} (h : Own e w base v l) (hg : w.grownBy w' row) (hne : v.ownBlock = none ∨ v.ownBlock ≠ row) : Own e w' base v l := World.ownsRow.kept h hg hne
theorem only_of_below (h : Below w.heap.size w w') (row : Option Nat) : w.grownBy w' row := ⟨h.os, h.tape, h.output, h.size, fun k hk _ => h.block k hk⟩
theorem Own.below (h : Own e w base v l) (hb : Below w.heap.size w w') : Own e w' base v l := h.kept (only_of_below hb none) (by cases v.ownBlock <;> simp)
theorem Own.lower {base' : Nat} (h : Own e w base v l) (hb : base' ≤ base) : Own e w base' v l := by
  obtain ⟨x1, x2⟩ := h
  refine ⟨x1, ?_⟩
  rcases x2 with x2 | ⟨y1, y2, y3, y4, y5, y6⟩
  · exact .inl x2
  · exact .inr ⟨y1, y2, y3, y4, Nat.le_trans hb y5, y6⟩
theorem Own.grown (h : Own e w base v l) (hg : w.grownBy w' v.ownBlock) (hb : base ≤ w.heap.size) : Below base w w' :=
  (Below.refl base w).grown hg hb fun k hk => (h.lt k hk).1
/-- append of bytes that are read, nil or not -/
theorem wpl_append_bytes {ops : Array Oper} {rest : List Oper} {o : Oper} {a : Act} {Q : Exit → Act → World → Prop} (hT : OneCell P t e (.int .u8 0) 1) (hgd : Region.wanted o (yielded ops a.tmps) = true) (s x : Operand)
    (ho : o.op = .call { callee := .builtin .append, args := #[s, x], argTypes := #[t, t] })
    (hs : a.eval s = v) (hown : Own e w base v l) (B : Nat) (u : Value) (m : List UInt8) (hx : a.eval x = u) (hu : Bytes w B u m) (hlen : l.length + m.length ≤ 1000000) (hbase : base ≤ w.heap.size) (k : Nat) (hk : l.length + m.length = k)
    (h : ∀ A c w', Own e w' base (.slice A k c) (l ++ m) → Below base w w' → (.slice A k c : Value).ownBlock = v.ownBlock ∨ (.slice A k c : Value).ownBlock = some w.heap.size → wpList P ops Q rest (a.put o.dst (.slice A k c)) w') :
    wpList P ops Q (o :: rest) a w := by
  obtain ⟨A, c, rfl, _, _, hr⟩ := hu
  refine wpl_append (v := v) (base := base) (xs := bv l) hT hgd s x ho l.length hs hown B A c (bv m) m.length (bv_length m) hx hr (fun u hu => bv_one hu) (by simp only [maxLen]; omega) (by omega) hbase ?_
  intro v' w' h1 h2 h3
  have hO : Own e w' base v' (l ++ m) := by
    unfold Own
    rw [List.length_append, bv_append]
    exact h1
  obtain ⟨A', c', hv, _, _⟩ := hO.shape
  rw [List.length_append, hk] at hv
  subst hv
  exact h A' c' w' hO (hown.grown h2 hbase) h3
/-- the same at a step of a region that draws its order -/
theorem step_append_bytes {ops : Array Oper} {o : Oper} {a : Act} {K : Act → World → Prop} {Q : Exit → Act → World → Prop} {E : Prop} (hT : OneCell P t e (.int .u8 0) 1) (hgd : Region.wanted o (yielded ops a.tmps) = true) (s x : Operand)
    (ho : o.op = .call { callee := .builtin .append, args := #[s, x], argTypes := #[t, t] })
    (hs : a.eval s = v) (hown : Own e w base v l) (B : Nat) (u : Value) (m : List UInt8) (hx : a.eval x = u) (hu : Bytes w B u m) (hlen : l.length + m.length ≤ 1000000) (hbase : base ≤ w.heap.size) (k : Nat) (hk : l.length + m.length = k)
    (h : ∀ A c w', Own e w' base (.slice A k c) (l ++ m) → Below base w w' → K (a.put o.dst (.slice A k c)) w') :
    if Region.wanted o (yielded ops a.tmps) = true then Oper.wp P o a w K Q else E := by
  rw [if_pos hgd]
  obtain ⟨A, c, rfl, _, _, hr⟩ := hu
  obtain ⟨v', w', hrun, h2, h3, _⟩ := run_append_row hT o.type l.length hown B A c (bv m) m.length (bv_length m) hr (fun u hu => bv_one hu) (by simp only [maxLen]; omega) (by omega) hbase
  have hO : Own e w' base v' (l ++ m) := by
    unfold Own
    rw [List.length_append, bv_append]
    exact h2
  obtain ⟨A', c', hv, _, _⟩ := hO.shape
  rw [List.length_append, hk] at hv
  subst hv
  unfold Oper.wp execOp
  simp only [ho, resolve, invoke, builtin, Sem.run_bind, Sem.run_pure, Result.andThen_ok, List.map_toArray, List.map_cons, List.map_nil, hs, hx, hrun]
  exact h A' c' w' hO (hown.grown h3 hbase)
/-- make of so many bytes, all zero -/
theorem wpl_make_bytes {ops : Array Oper} {rest : List Oper} {o : Oper} {a : Act} {Q : Exit → Act → World → Prop} (hT : OneCell P t e (.int .u8 0) 1) (hg : o.guard = none) (lo co : Operand) (hop : o.op = .makeSlice t lo co)
    (kl kc : IntKind) (L C : Int) (n : Nat) (hl : a.eval lo = .int kl L) (hc : a.eval co = .int kc C) (hL : L = n) (hC : C = n) (hn : n ≤ 1000000) (hbase : base ≤ w.heap.size)
    (h : ∀ w', Own e w' base (.slice (some ⟨w.heap.size, 0, none⟩) n n) (List.replicate n 0) → Below base w w' → wpList P ops Q rest (a.put o.dst (.slice (some ⟨w.heap.size, 0, none⟩) n n)) w') :
    wpList P ops Q (o :: rest) a w := by
  obtain ⟨i, hi, hz, hs, hby⟩ := hT.hi
  refine wpList_make_full w hg lo co t hop base e i _ 1 hT.ht hi hz hs kl kc L C n hl hc hL hC (by rw [hby]; omega) (by simp only [maxLen]; omega) hbase ?_
  intro w' h1 h2
  refine h w' ?_ ((Below.refl base w).grown h2 hbase fun k hk => by cases hk)
  unfold Own
  rw [List.length_replicate]
  have e1 : (Value.int IntKind.u8 0).cells = #[.int .u8 0] := rfl
  rw [e1, Nat.mul_one, toList_madeCells_one] at h1
  simpa [bv] using h1
/-- make of no bytes, with room for so many -/
theorem wpl_make_room {ops : Array Oper} {rest : List Oper} {o : Oper} {a : Act} {Q : Exit → Act → World → Prop} (hT : OneCell P t e (.int .u8 0) 1) (hg : o.guard = none) (lo co : Operand) (hop : o.op = .makeSlice t lo co)
    (kl kc : IntKind) (C : Int) (n : Nat) (hl : a.eval lo = .int kl 0) (hc : a.eval co = .int kc C) (hC : C = n) (hn : n ≤ 140737488355328) (hbase : base ≤ w.heap.size)
    (h : ∀ w', Own e w' base (.slice (some ⟨w.heap.size, 0, none⟩) 0 n) [] → Below base w w' → wpList P ops Q rest (a.put o.dst (.slice (some ⟨w.heap.size, 0, none⟩) 0 n)) w') :
    wpList P ops Q (o :: rest) a w := by
  obtain ⟨i, hi, hz, hs, hby⟩ := hT.hi
  refine wpList_make_own w hg lo co t hop base e i _ 1 hT.ht hi hz hs kl kc C n hl hc hC (by rw [hby]; omega) (by simp only [maxLen]; omega) hbase ?_
  intro w' h1 h2
  exact h w' h1 ((Below.refl base w).grown h2 hbase fun k hk => by cases hk)
/-- string(b) -/
theorem run_str {st : TypeId} {B : Nat} (hT : OneCell P t e (.int .u8 0) 1) (he : P.underlying e = some (.int .u8)) (hst : P.underlying st = some .string) (h : Bytes w B v l) : (convert t st v).run P w = .ok (.string ⟨l.toArray⟩) w := by
  obtain ⟨A, c, rfl, hl, hc, hr⟩ := h
  cases A with
  | none =>
    have : l = [] := by
      cases l with
      | nil => rfl
      | cons b r =>
        obtain ⟨a, ea, _⟩ := hr 0 _ rfl
        cases ea
    subst this
    exact run_convert_bytes_nil w t e hT.ht he _ c st hst
  | some a =>
    refine run_convert_bytes_back w t st e a c l hT.ht he hst fun j hj => ?_
    obtain ⟨a', ea, _, hc'⟩ := hr j _ (bv_get hj)
    cases ea
    exact hc'
end
end Go.Proofs.Ytppodbijdhcclaa

/- The type of byte slices at this program: what append and string ask of it. No condition. -/
namespace Go.Proofs.Ytppodbijdhcclaa
open Go.RowKit

theorem byteTys : OneCell Try.prog 44 5 (.int .u8 0) 1 := OneCell.mk' Try.underlying44 (by kernel_rfl) (by decide)
theorem str_of {w : World} {B : Nat} {v : Value} {l : List UInt8} (h : Bytes w B v l) : (convert 44 9 v).run Try.prog w = .ok (.string ⟨l.toArray⟩) w :=
  run_str byteTys Try.underlying5 Try.underlying9 h
end Go.Proofs.Ytppodbijdhcclaa

/- Words for a block of cells of which the whole is known (a struct behind a pointer, a row of numbers, a row of arrays): what loading and storing one cell leaves. No condition. -/
namespace Go.Proofs.Ytppodbijdhcclaa
open Go.RowKit

/-- in block g lie the cells cs, of a variable or a row of type t -/
def Blk (w : World) (g : Nat) (t : TypeId) (cs : List Value) : Prop := w.heap[g]? = some (.cells cs.toArray t (0, 0))
section
variable {w w' : World} {g B : Nat} {t : TypeId} {cs : List Value}
theorem Blk.lt (h : Blk w g t cs) : g < w.heap.size := by
  rcases Nat.lt_or_ge g w.heap.size with h' | h'
  · exact h'
  · have := h
    unfold Blk at this
    rw [Array.getElem?_eq_none h'] at this
    cases this
theorem Blk.below (h : Blk w g t cs) (hb : Below B w w') (hg : g < B) : Blk w' g t cs := (hb.block g hg).trans h
theorem Blk.after (h : Blk w g t cs) (hb : Below w.heap.size w w') : Blk w' g t cs := h.below hb h.lt
theorem Blk.alloc (h : Blk w g t cs) (o : Obj) : Blk (w.alloc o) g t cs := h.after ((Below.refl _ _).alloc (Nat.le_refl _) o)
theorem Blk.drew (h : Blk w g t cs) : Blk w.drew g t cs := h
theorem Blk.new (w : World) (t : TypeId) (cs : List Value) : Blk (w.alloc (.cells cs.toArray t)) w.heap.size t cs := heap_alloc_last w _
theorem Blk.grown {row : Option Nat} (h : Blk w g t cs) (hg : w.grownBy w' row) (hk : some g ≠ row) : Blk w' g t cs := (hg.block g h.lt hk).trans h
theorem Blk.cell (h : Blk w g t cs) (k : Nat) : w.cell? ⟨g, k, none⟩ = cs[k]? := by
  unfold Blk at h
  simp [World.cell?, h]
theorem Blk.free (h : Blk w g t cs) (k : Nat) : w.frozen? ⟨g, k, none⟩ = false := frozen_of_row w g k _ _ h
theorem Blk.set (h : Blk w g t cs) (k : Nat) (v : Value) : Blk (w.setCell ⟨g, k, none⟩ v) g t (cs.set k v) := by
  unfold Blk
  rw [← List.setIfInBounds_toArray]
  exact heap_setCell_same w g k _ _ _ h
theorem Blk.other (h : Blk w g t cs) (a : Addr) (v : Value) (hne : g ≠ a.block) : Blk (w.setCell a v) g t cs := (heap_setCell_other w a g v hne).trans h
/-- a value of one cell is loaded from the block -/
theorem wpl_blk_load {P : Program} {ops : Array Oper} {rest : List Oper} {o : Oper} {a : Act} {Q : Exit → Act → World → Prop} {ty : TypeId} {v : Value} (hag : ∀ w, (isAgg ty).run P w = .ok false w)
    (x : Operand) (ho : o.op = .load ty x) (hgd : Region.wanted o (yielded ops a.tmps) = true) (hB : Blk w g t cs) (i : Nat) (hv : cs[i]? = some v) (hx : a.eval x = .pointer (some ⟨g, i, none⟩))
    (h : wpList P ops Q rest (a.put o.dst v) w) : wpList P ops Q (o :: rest) a w := by
  have hc : w.cell? ⟨g, i, none⟩ = some v := (hB.cell i).trans hv
  have hs : (loadVar ty ⟨g, i, none⟩).run P w = .ok v w := by
    simp [loadVar, Sem.run_bind, hag, run_load, hc]
  refine BigFrame.wpList_want hgd fun K hK => ?_
  unfold Oper.wp execOp
  simp only [ho, hx, Instr.loadAt, Instr.sureAddr, Sem.run_bind, Sem.run_pure, Result.andThen_ok, hs]
  exact hK _ _ h
/-- a value of one cell is stored into the block -/
theorem wpl_blk {P : Program} {ops : Array Oper} {rest : List Oper} {o : Oper} {a : Act} {Q : Exit → Act → World → Prop} {ty : TypeId} {v : Value} (hsz : ∀ w, (sizeOf ty).run P w = .ok 1 w) (h1 : v.oneCell' = true) (h2 : v.cells = #[v])
    (x y : Operand) (ho : o.op = .store ty x y) (hgd : Region.wanted o (yielded ops a.tmps) = true)
    (hB : Blk w g t cs) (i : Nat) (hi : i < cs.length) (hx : a.eval x = .pointer (some ⟨g, i, none⟩)) (hy : a.eval y = v)
    (h : ∀ w', Blk w' g t (cs.set i v) → w.grownBy w' (some g) → w'.heap.size = w.heap.size → wpList P ops Q rest (a.put o.dst undef) w') : wpList P ops Q (o :: rest) a w := by
  have hc : w.cell? ⟨g, i, none⟩ = some (cs[i]'hi) := (hB.cell i).trans (List.getElem?_eq_getElem hi)
  have hs : (storeVar ty ⟨g, i, none⟩ v).run P w = .ok () (w.setCell ⟨g, i, none⟩ v) := by
    have h0 : (⟨g, i, none⟩ : Addr).add 0 = ⟨g, i, none⟩ := by simp [Addr.add]
    simp [storeVar, Sem.run_bind, hsz, h2, storeCells, h0, run_store _ _ _ _ _ h1, hc, hB.free i]
  refine BigFrame.wpList_want hgd fun K hK => ?_
  unfold Oper.wp execOp
  simp only [ho, hx, hy, Instr.storeAt, Instr.sureAddr, Sem.run_bind, Sem.run_pure, Result.andThen_ok, hs]
  exact hK _ _ (h _ (hB.set i v) ⟨rfl, rfl, rfl, by simp, fun k _ hk => heap_setCell_other w _ k _ (by simpa using hk)⟩ (by simp))
/-- .. a number -/
theorem wpl_blk_int {P : Program} {ops : Array Oper} {rest : List Oper} {o : Oper} {a : Act} {Q : Exit → Act → World → Prop} {ty : TypeId} (k : IntKind) (z : Int) (hsz : ∀ w, (sizeOf ty).run P w = .ok 1 w)
    (x y : Operand) (ho : o.op = .store ty x y) (hgd : Region.wanted o (yielded ops a.tmps) = true)
    (hB : Blk w g t cs) (i : Nat) (hi : i < cs.length) (hx : a.eval x = .pointer (some ⟨g, i, none⟩)) (hy : a.eval y = .int k z) (cs' : List Value) (hcs : cs.set i (.int k z) = cs')
    (h : ∀ w', Blk w' g t cs' → w.grownBy w' (some g) → w'.heap.size = w.heap.size → wpList P ops Q rest (a.put o.dst undef) w') : wpList P ops Q (o :: rest) a w :=
  wpl_blk hsz (by rfl) (by rfl) x y ho hgd hB i hi hx hy (hcs ▸ h)
/-- .. a truth -/
theorem wpl_blk_bool {P : Program} {ops : Array Oper} {rest : List Oper} {o : Oper} {a : Act} {Q : Exit → Act → World → Prop} {ty : TypeId} (b : Bool) (hsz : ∀ w, (sizeOf ty).run P w = .ok 1 w)
    (x y : Operand) (ho : o.op = .store ty x y) (hgd : Region.wanted o (yielded ops a.tmps) = true)
    (hB : Blk w g t cs) (i : Nat) (hi : i < cs.length) (hx : a.eval x = .pointer (some ⟨g, i, none⟩)) (hy : a.eval y = .bool b) (cs' : List Value) (hcs : cs.set i (.bool b) = cs')
    (h : ∀ w', Blk w' g t cs' → w.grownBy w' (some g) → w'.heap.size = w.heap.size → wpList P ops Q rest (a.put o.dst undef) w') : wpList P ops Q (o :: rest) a w :=
  wpl_blk hsz (by rfl) (by rfl) x y ho hgd hB i hi hx hy (hcs ▸ h)
end
end Go.Proofs.Ytppodbijdhcclaa

/- A value of many cells (a struct, an array) out of a block and into one, wherever it stands there. No condition. -/
namespace Go.Proofs.Ytppodbijdhcclaa
open Go.RowKit
section
variable {P : Program} {w w' : World} {g i n : Nat} {t ty : TypeId} {cs vs : List Value}
/-- cs with the cells from i on as vs tells -/
def segSet (cs : List Value) (i : Nat) (vs : List Value) : List Value := cs.take i ++ vs ++ cs.drop (i + vs.length)
theorem segSet_length (h : i + vs.length ≤ cs.length) : (segSet cs i vs).length = cs.length := by
  simp [segSet]; omega
theorem add_off (g i j : Nat) : (⟨g, i, none⟩ : Addr).add j = ⟨g, i + j, none⟩ := by unfold Addr.add; split <;> simp_all
theorem seg_load (hag : ∀ w, (isAgg ty).run P w = .ok true w) (hsz : ∀ w, (sizeOf ty).run P w = .ok n w) (hB : Blk w g t cs) (hv : (cs.drop i).take n = vs) (hn : vs.length = n) :
    (loadVar ty ⟨g, i, none⟩).run P w = .ok (.agg vs.toArray) w := by
  have h1 := run_loadCells_list (P := P) w ⟨g, i, none⟩ vs (fun j v hj => by
    rw [add_off, hB.cell]
    rw [← hv, List.getElem?_take] at hj
    split at hj
    · rw [List.getElem?_drop] at hj
      exact hj
    · cases hj)
  rw [hn] at h1
  unfold loadVar
  simp only [Sem.run_bind, hag, Result.andThen_ok, if_true, hsz, Sem.run_pure, h1]
theorem seg_store (hsz : ∀ w, (sizeOf ty).run P w = .ok n w) (hB : Blk w g t cs) (hn : vs.length = n) (hi : i + n ≤ cs.length) (h1 : ∀ v ∈ vs, v.oneCell' = true) :
    (storeVar ty ⟨g, i, none⟩ (.agg vs.toArray)).run P w = .ok () (w.setRow g (segSet cs i vs).toArray) := by
  have h := run_storeCells_at P g i t vs 0 cs.toArray w hB (by simp; omega) h1
  unfold storeVar
  simp only [Sem.run_bind, hsz, Result.andThen_ok, Value.cells, List.size_toArray, hn]
  rw [if_neg (by simp)]
  simpa [segSet] using h
theorem Blk.seg (hB : Blk w g t cs) (vs : List Value) : Blk (w.setRow g vs.toArray) g t vs ∧ w.grownBy (w.setRow g vs.toArray) (some g) ∧ (w.setRow g vs.toArray).heap.size = w.heap.size :=
  ⟨setRow_heap w g cs.toArray vs.toArray _ _ hB, ⟨rfl, rfl, rfl, by simp, fun k _ hk => setRow_other w g k vs.toArray (by simpa using hk)⟩, by simp⟩
/-- .. as the walk meets it -/
theorem wpl_seg_load {ops : Array Oper} {rest : List Oper} {o : Oper} {a : Act} {Q : Exit → Act → World → Prop} (hag : ∀ w, (isAgg ty).run P w = .ok true w) (hsz : ∀ w, (sizeOf ty).run P w = .ok n w)
    (x : Operand) (ho : o.op = .load ty x) (hgd : Region.wanted o (yielded ops a.tmps) = true) (hB : Blk w g t cs) (i : Nat) (vs : List Value) (hv : (cs.drop i).take n = vs) (hn : vs.length = n) (hx : a.eval x = .pointer (some ⟨g, i, none⟩))
    (h : wpList P ops Q rest (a.put o.dst (.agg vs.toArray)) w) : wpList P ops Q (o :: rest) a w := by
  refine BigFrame.wpList_want hgd fun K hK => ?_
  unfold Oper.wp execOp
  simp only [ho, hx, Instr.loadAt, Instr.sureAddr, Sem.run_bind, Sem.run_pure, Result.andThen_ok, seg_load hag hsz hB hv hn]
  exact hK _ _ h
theorem wpl_seg_store {ops : Array Oper} {rest : List Oper} {o : Oper} {a : Act} {Q : Exit → Act → World → Prop} (hsz : ∀ w, (sizeOf ty).run P w = .ok n w)
    (x y : Operand) (ho : o.op = .store ty x y) (hgd : Region.wanted o (yielded ops a.tmps) = true) (hB : Blk w g t cs) (i : Nat) (vs : List Value) (hn : vs.length = n) (hi : i + n ≤ cs.length) (h1 : ∀ v ∈ vs, v.oneCell' = true) (hx : a.eval x = .pointer (some ⟨g, i, none⟩)) (hy : a.eval y = .agg vs.toArray)
    (cs' : List Value) (hcs : segSet cs i vs = cs')
    (h : ∀ w', Blk w' g t cs' → w.grownBy w' (some g) → w'.heap.size = w.heap.size → wpList P ops Q rest (a.put o.dst undef) w') : wpList P ops Q (o :: rest) a w := by
  subst hcs
  obtain ⟨r1, r2, r3⟩ := hB.seg (segSet cs i vs)
  refine BigFrame.wpList_want hgd fun K hK => ?_
  unfold Oper.wp execOp
  simp only [ho, hx, hy, Instr.storeAt, Instr.sureAddr, Sem.run_bind, Sem.run_pure, Result.andThen_ok, seg_store hsz hB hn hi h1]
  exact hK _ _ (h _ r1 r2 r3)
/-- one result, of many cells -/
theorem sret1 {fn : Func} {p : Tmp} (hag : ∀ w, (isAgg ty).run P w = .ok true w) (hsz : ∀ w, (sizeOf ty).run P w = .ok n w) (h : fn.results = #[.cell p ty]) (tmps : Array Value) (hB : Blk w g t cs) (hv : (cs.drop i).take n = vs) (hn : vs.length = n) (hp : tmps.getD p undef = .pointer (some ⟨g, i, none⟩)) :
    (results fn tmps).run P w = .ok (.agg vs.toArray) w := by
  have hp' : tmps[p]?.getD undef = .pointer (some ⟨g, i, none⟩) := by simpa using hp
  simp [results, h, hp', asAddr, seg_load hag hsz hB hv hn]
/-- two results: one of many cells, and another one -/
theorem sret2 {fn : Func} {p u : Tmp} (hag : ∀ w, (isAgg ty).run P w = .ok true w) (hsz : ∀ w, (sizeOf ty).run P w = .ok n w) (h : fn.results = #[.cell p ty, .tmp u]) (tmps : Array Value) (hB : Blk w g t cs) (hv : (cs.drop i).take n = vs) (hn : vs.length = n) (hp : tmps.getD p undef = .pointer (some ⟨g, i, none⟩)) :
    (results fn tmps).run P w = .ok (.tuple #[.agg vs.toArray, tmps.getD u undef]) w := by
  have hp' : tmps[p]?.getD undef = .pointer (some ⟨g, i, none⟩) := by simpa using hp
  simp [results, h, hp', asAddr, seg_load hag hsz hB hv hn]
end
end Go.Proofs.Ytppodbijdhcclaa

/- The contracts of pack's numbers: width, Num, and the document's own. No condition. -/
namespace Go.Proofs.Ytppodbijdhcclaa
open Go.RowKit


/-- a size within its bounds -/
def wid (n : Int) : Nat := (min (max n 0) 8).toNat
theorem wid_le (n : Int) : wid n ≤ 8 := by unfold wid; omega

theorem ret_int {k : IntKind} {a b : Int} (h : a = b) : Ending.returned (.int k a) = .returned (.int k b) := by rw [h]
theorem width_any (n : Int) (w : World) : Calls Try.prog 85 #[.int .i64 n] w fun e w' => e = .returned (.int .i64 (wid n : Int)) ∧ w = w' := by
  rcases (show n < 0 ∨ 8 < n ∨ (0 ≤ n ∧ n ≤ 8) by omega) with h | h | ⟨h, h'⟩
  all_goals
    go_enter Try.func85, Try.ntmps85
    go_wp2
    go_ret
    exact ⟨ret_int (by unfold wid; omega), rfl⟩
/-- a number's bytes -/
def numB : Nat → Nat → List UInt8
  | 0, _ => []
  | k + 1, n => UInt8.ofNat n :: numB k (n / 256)
theorem numB_length (k n : Nat) : (numB k n).length = k := by
  induction k generalizing n with
  | zero => rfl
  | succ k ih => simp [numB, ih]
theorem numB_get (k n i : Nat) (h : i < k) : (numB k n)[i]? = some (UInt8.ofNat (n / 256 ^ i)) := by
  induction k generalizing n i with
  | zero => omega
  | succ k ih =>
    cases i with
    | zero => simp [numB]
    | succ i =>
      rw [show (numB (k + 1) n)[i + 1]? = (numB k (n / 256))[i]? by simp [numB], ih (n / 256) i (by omega), Nat.div_div_eq_div_mul, Nat.pow_succ, Nat.mul_comm 256]
theorem numB_snoc (k n : Nat) : numB (k + 1) n = numB k n ++ [UInt8.ofNat (n / 256 ^ k)] := by
  apply List.ext_getElem?
  intro i
  rcases Nat.lt_trichotomy i k with h | h | h
  · rw [numB_get _ _ _ (by omega), List.getElem?_append_left (by rw [numB_length]; omega), numB_get _ _ _ h]
  · subst h
    rw [numB_get _ _ _ (by omega), List.getElem?_append_right (by rw [numB_length]; omega), numB_length]
    simp
  · rw [List.getElem?_eq_none (by rw [numB_length]; omega), List.getElem?_eq_none (by simp [numB_length]; omega)]

theorem num_set (k K n : Nat) (h : k < K) : (numB k n ++ List.replicate (K - k) 0).set k (UInt8.ofNat (n / 256 ^ k)) = numB (k + 1) n ++ List.replicate (K - (k + 1)) 0 := by
  rw [List.set_append_right _ _ (by rw [numB_length]; omega), numB_length, Nat.sub_self, show K - k = (K - (k + 1)) + 1 by omega, List.replicate_succ, List.set_cons_zero, numB_snoc, List.append_assoc]
  rfl

theorem num_shift (n k : Nat) : ((n : Int) / 2 ^ (8 * k) % 256) = ((UInt8.ofNat (n / 256 ^ k)).toNat : Int) := by
  have e : (2 : Int) ^ (8 * k) = ((256 ^ k : Nat) : Int) := by
    rw [Int.pow_mul]
    simp
  rw [e, UInt8.toNat_ofNat']
  simp

set_option maxHeartbeats 1000000 in
theorem num_any (s : Int) (n : Nat) (w : World) :
    Calls Try.prog 81 #[.int .i64 s, .int .u64 (n : Int)] w fun e w' => ∃ A c, e = .returned (.slice A (wid s) c) ∧ Own 5 w' w.heap.size (.slice A (wid s) c) (numB (wid s) n) ∧ Below w.heap.size w w' := by
  obtain ⟨K, hK⟩ : ∃ K, K = wid s := ⟨_, rfl⟩
  have hK8 : K ≤ 8 := by rw [hK]; exact wid_le s
  rw [← hK]
  have HK := Lib.hid hK
  clear hK
  go_enter Try.func81, Try.ntmps81
  go_wp2_with fail
  ((with_reducible refine (width_any s _).mono ?_); rintro e w' ⟨rfl, hw⟩; rw [← hw]; clear hw w')
  rw [← HK.out]
  go_wp2_with (at_make; refine wpl_make_bytes byteTys rfl (.tmp 8) (.tmp 8) rfl _ _ _ _ K rfl rfl rfl rfl (by omega) (Nat.le_refl w.heap.size) ?_; intro w1 O1 hb1)
  go_loopw [12] (fun i wr => ∃ k : Nat, k ≤ K ∧ i = .int .i64 k ∧ Own 5 wr w.heap.size (.slice (some ⟨w.heap.size, 0, none⟩) K K) (numB k n ++ List.replicate (K - k) 0) ∧ Below w.heap.size w wr) (fun i _ => K - (intOf i).toNat)
  case atStart => exact ⟨0, Nat.zero_le _, rfl, by simpa [numB] using O1, hb1⟩
  case round =>
    rename_i wr
    obtain ⟨k, hk, rfl, hO, hbr⟩ := hrel
    clear O1 hb1
    by_cases hlt : k < K
    · have hg : (numB k n ++ List.replicate (K - k) (0 : UInt8))[k]? = some 0 := by
        rw [List.getElem?_append_right (by rw [numB_length]; omega), numB_length, Nat.sub_self, List.getElem?_replicate, if_pos (by omega)]
      have cc := hO.cell hg
      have cf := hO.free k
      clear hg
      go_wp2
      clear cc cf
      go_roundw
      case rel =>
        refine ⟨k + 1, by omega, by go_num, ?_, hbr.setCell (Nat.le_refl _) _⟩
        rw [num_shift n k, ← num_set k K n hlt]
        exact hO.set k _
      case measure => simp [intOf]; omega
    · obtain rfl : k = K := by omega
      go_wp2
      go_ret
      exact ⟨_, _, rfl, by simpa using hO, hbr⟩
end Go.Proofs.Ytppodbijdhcclaa

/- The contracts of pack's Join: it answers the bytes, one behind the other, in new memory. Condition: no more than a million bytes. -/
namespace Go.Proofs.Ytppodbijdhcclaa
open Go.RowKit

theorem flat_take_le (L : List (List UInt8)) (k : Nat) : (L.take k).flatten.length ≤ L.flatten.length := by
  have : L.flatten = (L.take k).flatten ++ (L.drop k).flatten := by rw [← List.flatten_append, List.take_append_drop]
  rw [this, List.length_append]; omega

set_option maxHeartbeats 1000000 in
theorem join_any (v : Value) (L : List (List UInt8)) (w : World) (B : Nat) (hB : B ≤ w.heap.size) (hp : Parts w B v L) (hlen : L.flatten.length ≤ 1000000) :
    Calls Try.prog 80 #[v] w fun e w' => ∃ g c', e = .returned (.slice (some ⟨g, 0, none⟩) L.flatten.length c') ∧ w.heap.size ≤ g ∧ Own 5 w' w.heap.size (.slice (some ⟨g, 0, none⟩) L.flatten.length c') L.flatten ∧ Below w.heap.size w w' := by
  obtain ⟨A, c, vs, rfl, hr, he, hvl⟩ := hp
  unfold maxLen at hvl
  have hfull : L.take vs.length = L := by rw [he.1]; exact List.take_length
  have HF := Lib.hid hfull
  clear hfull
  have hT := flat_take_le L
  obtain ⟨N, hN⟩ : ∃ N, N = L.flatten.length := ⟨_, rfl⟩
  rw [← hN] at hT hlen ⊢
  have HN := Lib.hid hN
  have HT := Lib.hid hT
  clear hN hT
  go_enter Try.func80, Try.ntmps80
  go_wp2
  go_loop [3, 11] (fun z i => ∃ k : Nat, k ≤ vs.length ∧ i = .int .i64 k ∧ z = .int .i64 ((L.take k).flatten.length : Int)) (fun _ i => vs.length - (intOf i).toNat)
  case atStart => exact ⟨0, Nat.zero_le _, rfl, rfl⟩
  case round =>
    obtain ⟨k, hk, rfl, rfl⟩ := hrel
    by_cases hlt : k < vs.length
    · obtain ⟨a, rfl, hab, hcell⟩ := hr.at_ hlt
      obtain ⟨l, hl, Ai, ci, hv, hlc, hcm, hrow⟩ := he.at_ hlt
      rw [hv] at hcell
      have e : (L.take (k + 1)).flatten.length = (L.take k).flatten.length + l.length := by rw [take_snoc L hl, List.flatten_append, List.length_append]; simp
      have hle := HT.out (k + 1)
      obtain ⟨z, hz⟩ : ∃ z, z = (L.take k).flatten.length := ⟨_, rfl⟩
      rw [← hz] at e ⊢
      rw [e] at hle
      have HE := Lib.hid e
      clear hv hl hrow e hz
      unfold maxLen at hcm
      go_wp2
      go_round
      case rel => exact ⟨k + 1, by omega, by go_num, by rw [HE.out]; go_num⟩
      case measure => simp [intOf]; omega
    · obtain rfl : k = vs.length := by omega
      rw [HF.out, ← HN.out]
      have hNi : (0 : Int) ≤ (N : Int) := by omega
      go_wp2_with (at_make; refine wpl_make_room byteTys rfl _ (.tmp 20) rfl _ _ _ N rfl rfl rfl (by omega) (Nat.le_refl w.heap.size) ?_; intro w1 O1 hb1)
      go_loopw [6, 24] (fun u i wr => ∃ k : Nat, k ≤ vs.length ∧ i = .int .i64 k ∧ ∃ g n c', u = .slice (some ⟨g, 0, none⟩) n c' ∧ w.heap.size ≤ g ∧ n = (L.take k).flatten.length ∧ Own 5 wr w.heap.size (.slice (some ⟨g, 0, none⟩) n c') (L.take k).flatten ∧ Below w.heap.size w wr) (fun _ i _ => vs.length - (intOf i).toNat)
      case atStart => exact ⟨0, Nat.zero_le _, rfl, _, _, _, rfl, Nat.le_refl _, rfl, O1, hb1⟩
      case round =>
        rename_i wr
        obtain ⟨k, hk, rfl, g, n, c', rfl, hg, hn, hO, hbr⟩ := hrel
        clear O1 hb1
        have HN2 := Lib.hid hn
        clear hn
        by_cases hlt2 : k < vs.length
        · obtain ⟨a, rfl, hab, hcell⟩ := hr.at_ hlt2
          obtain ⟨l, hl, Ai, ci, hv, hlc, hcm, hrow⟩ := he.at_ hlt2
          have hc2 := (hbr.cell (p := a.add k) (by rw [add_block]; omega)).trans hcell
          rw [hv] at hc2
          have e : (L.take (k + 1)).flatten = (L.take k).flatten ++ l := by rw [take_snoc L hl, List.flatten_append]; simp
          have hle := HT.out (k + 1)
          rw [e, List.length_append, ← HN2.out] at hle
          have DY : Hid (Bytes wr B (.slice Ai l.length ci) l) := Lib.hid (Bytes.keep ⟨Ai, ci, rfl, hlc, hcm, hrow⟩ fun p hp => hbr.cell (by omega))
          have h1 : (L.take k).flatten.length + l.length ≤ 1000000 := by rw [← HN2.out]; omega
          have h2 : (L.take k).flatten.length + l.length = n + l.length := by rw [← HN2.out]
          have H1 := Lib.hid h1
          have H2 := Lib.hid h2
          have HE := Lib.hid e
          have hz := hbr.size
          clear h1 h2 hv hl hrow e hcell
          unfold maxLen at hcm
          go_wp2_with (at_builtin; refine wpl_append_bytes byteTys rfl (.tmp 28) (.tmp 29) rfl rfl hO _ _ _ rfl DY.out H1.out hz (n + l.length) H2.out ?_; intro A7 c7 w7 O7 g7 h7)
          go_roundw
          case rel =>
            have ⟨g', hg'1, hg'2⟩ : ∃ g', A7 = some ⟨g', 0, none⟩ ∧ w.heap.size ≤ g' := by
              rcases h7 with h7 | h7
              · exact ⟨_, (O7.addr' h7).1, (O7.addr' h7).2.1⟩
              · exact ⟨_, (O7.addr' h7).1, (O7.addr' h7).2.1⟩
            subst hg'1
            exact ⟨k + 1, by omega, by go_num, g', n + l.length, c7, rfl, hg'2, by rw [HE.out, List.length_append, H2.out], by rw [HE.out]; exact O7, hbr.trans g7⟩
          case measure => simp [intOf]; omega
        · obtain rfl : k = vs.length := by omega
          rw [HF.out] at hO HN2
          rw [← HN.out] at HN2
          obtain rfl := HN2.out
          go_wp2
          go_ret
          exact ⟨g, c', rfl, hg, hO, hbr⟩
end Go.Proofs.Ytppodbijdhcclaa

/- The contracts of pack's Reader. No condition. -/
namespace Go.Proofs.Ytppodbijdhcclaa
open Go.RowKit

/-- the block g is a Reader: l is left of its bytes, which lie in block h; bad tells whether too much was read -/
def Rd (w : World) (g h : Nat) (l : List UInt8) (bad : Bool) : Prop :=
  g ≠ h ∧ ∃ A n c, n = l.length ∧ n ≤ c ∧ c ≤ maxLen ∧ w.heap[g]? = some (.cells #[.slice A n c, .bool bad] 144 (0, 0)) ∧ ∀ j u, (bv l)[j]? = some u → ∃ a, A = some a ∧ a.block = h ∧ w.cell? (a.add j) = some u

theorem blk_cell {w : World} {g : Nat} {cs : Array Value} {t : TypeId} (h : w.heap[g]? = some (.cells cs t (0, 0))) (i : Nat) : w.cell? ⟨g, i, none⟩ = cs[i]? := cell_of_row w g i cs t (0, 0) h
theorem blk_free {w : World} {g : Nat} {cs : Array Value} {t : TypeId} (h : w.heap[g]? = some (.cells cs t (0, 0))) (i : Nat) : w.frozen? ⟨g, i, none⟩ = false := by simp [World.frozen?, h]
theorem blk_set {w : World} {g : Nat} {cs : Array Value} {t : TypeId} (h : w.heap[g]? = some (.cells cs t (0, 0))) (i : Nat) (u : Value) : (w.setCell ⟨g, i, none⟩ u).heap[g]? = some (.cells (cs.setIfInBounds i u) t (0, 0)) := by
  simp [World.setCell, Array.getElem?_modify, h]
theorem blk_lt {w : World} {g : Nat} {o : Obj} (h : w.heap[g]? = some o) : g < w.heap.size := by
  rcases Nat.lt_or_ge g w.heap.size with h' | h'
  · exact h'
  · rw [Array.getElem?_eq_none h'] at h; cases h

theorem only_set (w : World) (p : Addr) (u : Value) : w.grownBy (w.setCell p u) (some p.block) :=
  ⟨rfl, rfl, rfl, by simp [World.setCell], fun k _ hk => Below.heap_setCell w p u k fun e => hk (by rw [e])⟩
theorem only_trans {a b c : World} {row : Option Nat} (h : a.grownBy b row) (k : b.grownBy c row) : a.grownBy c row := h.trans k
theorem only_alloc {a w : World} {row : Option Nat} (h : a.grownBy w row) (o : Obj) : a.grownBy (w.alloc o) row :=
  ⟨h.os, h.tape, h.output, Nat.le_trans h.size (by simp), fun k hk hne => (Below.heap_alloc w o k (Nat.lt_of_lt_of_le hk h.size)).trans (h.block k hk hne)⟩
theorem far_row {w w' : World} {A : Option Addr} {h : Nat} {xs : List Value} (hw : w'.heap[h]? = w.heap[h]?) (hrow : ∀ (j : Nat) (u : Value), xs[j]? = some u → ∃ a, A = some a ∧ a.block = h ∧ w.cell? (a.add j) = some u) :
    ∀ (j : Nat) (u : Value), xs[j]? = some u → ∃ a, A = some a ∧ a.block = h ∧ w'.cell? (a.add j) = some u := fun j u hu => by
  obtain ⟨a, e, hb, hc⟩ := hrow j u hu
  exact ⟨a, e, hb, (World.cell?_of_block (w := w) (w' := w') (a := a.add j) (by rw [add_block, hb]; exact hw)).trans hc⟩
theorem row_take {w : World} {A : Option Addr} {h n : Nat} {l : List UInt8} (hrow : ∀ (j : Nat) (u : Value), (bv l)[j]? = some u → ∃ a, A = some a ∧ a.block = h ∧ w.cell? (a.add j) = some u) :
    ∀ (j : Nat) (u : Value), (bv (l.take n))[j]? = some u → ∃ a, A = some a ∧ a.block = h ∧ w.cell? (a.add j) = some u := fun j u hu => by
  refine hrow j u ?_
  have hj := get_lt hu
  rw [bv_length, List.length_take] at hj
  rw [← hu]
  simp [bv, List.getElem?_take]
  omega
theorem row_drop {w : World} {A : Option Addr} {h n : Nat} {l : List UInt8} (hrow : ∀ (j : Nat) (u : Value), (bv l)[j]? = some u → ∃ a, A = some a ∧ a.block = h ∧ w.cell? (a.add j) = some u) :
    ∀ (j : Nat) (u : Value), (bv (l.drop n))[j]? = some u → ∃ a, A.map (fun x => x.add n) = some a ∧ a.block = h ∧ w.cell? (a.add j) = some u := fun j u hu => by
  obtain ⟨a, e, hb, hc⟩ := hrow (n + j) u (by rw [← hu]; simp [bv])
  exact ⟨a.add n, by rw [e]; rfl, by rw [add_block]; exact hb, by rw [add_twice]; exact hc⟩
theorem rd_set {w : World} {g h m c : Nat} {A A' : Option Addr} {n' c' : Nat} {l' : List UInt8} {bad : Bool} (hgh : g ≠ h) (hB : w.heap[g]? = some (.cells #[.slice A m c, .bool bad] 144 (0, 0))) (h1 : n' = l'.length) (h2 : n' ≤ c') (h3 : c' ≤ maxLen)
    (hrow : ∀ (j : Nat) (u : Value), (bv l')[j]? = some u → ∃ a, A' = some a ∧ a.block = h ∧ w.cell? (a.add j) = some u) : Rd (w.setCell ⟨g, 0, none⟩ (.slice A' n' c')) g h l' bad := by
  refine ⟨hgh, A', n', c', h1, h2, h3, by rw [blk_set hB]; rfl, far_row ?_ hrow⟩
  exact Below.heap_setCell w _ _ h (fun e => hgh e.symm)

set_option maxHeartbeats 1000000 in
theorem take_yes (g h : Nat) (l : List UInt8) (bad : Bool) (n : Nat) (w : World) (hr : Rd w g h l bad) (hn : n ≤ l.length) :
    Calls Try.prog 84 #[.pointer (some ⟨g, 0, none⟩), .int .i64 (n : Int)] w fun e w' => ∃ A c, e = .returned (.slice A n c) ∧ n ≤ c ∧ c ≤ maxLen ∧ (∀ j u, (bv (l.take n))[j]? = some u → ∃ a, A = some a ∧ a.block = h ∧ w'.cell? (a.add j) = some u) ∧ Rd w' g h (l.drop n) bad ∧ w.grownBy w' (some g) := by
  obtain ⟨hgh, A, m, c, hm, hmc, hcm, hblk, hrow⟩ := hr
  have c0 := blk_cell hblk 0
  have c1 := blk_cell hblk 1
  have f0 := blk_free hblk 0
  have f1 := blk_free hblk 1
  have hnm : n ≤ m := by omega
  unfold maxLen at hcm
  have HM := Lib.hid hm
  have HR := Lib.hid hrow
  have HB := Lib.hid hblk
  clear hm hrow hblk
  simp at c0 c1
  go_enter Try.func84, Try.ntmps84
  go_wp2
  all_goals
    go_ret
    refine ⟨A, _, rfl, by omega, by simp [maxLen]; omega, far_row (Below.heap_setCell w _ _ _ (fun e => hgh e.symm)) (row_take HR.out), ?_, only_set w _ _⟩
    first
      | exact rd_set hgh HB.out (by rw [List.length_drop, ← HM.out]) (by omega) (by simp [maxLen]; omega) (row_drop HR.out)
      | exact rd_set hgh HB.out (by rw [List.length_drop, ← HM.out]) (by omega) (by simp [maxLen]) (by
          have e : l.drop n = [] := List.drop_of_length_le (by have := HM.out; omega)
          rw [e]; intro j u hu; simp [bv] at hu)

set_option maxHeartbeats 1000000 in
theorem take_no (g h : Nat) (l : List UInt8) (bad : Bool) (n : Nat) (w : World) (hr : Rd w g h l bad) (hn : l.length < n) :
    Calls Try.prog 84 #[.pointer (some ⟨g, 0, none⟩), .int .i64 (n : Int)] w fun e w' => e = .returned (.slice none 0 0) ∧ Rd w' g h [] true ∧ w.grownBy w' (some g) := by
  obtain ⟨hgh, A, m, c, hm, hmc, hcm, hblk, hrow⟩ := hr
  have c0 := blk_cell hblk 0
  have c1 := blk_cell hblk 1
  have f0 := blk_free hblk 0
  have f1 := blk_free hblk 1
  have hnm : m < n := by omega
  unfold maxLen at hcm
  have HM := Lib.hid hm
  have HB := Lib.hid hblk
  clear hm hrow hblk
  simp at c0 c1
  have c1' : (w.setCell ⟨g, 0, none⟩ (.slice none 0 0)).cell? ⟨g, 1, none⟩ = some (.bool bad) := by
    rw [blk_cell (blk_set HB.out 0 (.slice none 0 0)) 1]; rfl
  have f1' : (w.setCell ⟨g, 0, none⟩ (.slice none 0 0)).frozen? ⟨g, 1, none⟩ = false := blk_free (blk_set HB.out 0 (.slice none 0 0)) 1
  go_enter Try.func84, Try.ntmps84
  go_wp2
  go_ret
  refine ⟨rfl, ⟨hgh, none, 0, 0, rfl, Nat.le_refl _, by simp [maxLen], ?_, by intro j u hu; simp [bv] at hu⟩, only_trans (only_set w ⟨g, 0, none⟩ _) (only_set _ ⟨g, 1, none⟩ _)⟩
  rw [blk_set (blk_set HB.out 0 (.slice none 0 0)) 1]
  rfl

theorem take_yes' (g h : Nat) (l : List UInt8) (bad : Bool) (i : Int) (n : Nat) (hi : i = n) (w : World) (hr : Rd w g h l bad) (hn : n ≤ l.length) :
    Calls Try.prog 84 #[.pointer (some ⟨g, 0, none⟩), .int .i64 i] w fun e w' => ∃ A c, e = .returned (.slice A n c) ∧ n ≤ c ∧ c ≤ maxLen ∧ (∀ j u, (bv (l.take n))[j]? = some u → ∃ a, A = some a ∧ a.block = h ∧ w'.cell? (a.add j) = some u) ∧ Rd w' g h (l.drop n) bad ∧ w.grownBy w' (some g) := by
  subst hi
  exact take_yes g h l bad n w hr hn
theorem take_no' (g h : Nat) (l : List UInt8) (bad : Bool) (i : Int) (n : Nat) (hi : i = n) (w : World) (hr : Rd w g h l bad) (hn : l.length < n) :
    Calls Try.prog 84 #[.pointer (some ⟨g, 0, none⟩), .int .i64 i] w fun e w' => e = .returned (.slice none 0 0) ∧ Rd w' g h [] true ∧ w.grownBy w' (some g) := by
  subst hi
  exact take_no g h l bad n w hr hn

/-- the number that bytes are, the low one first -/
def le : List UInt8 → Nat
  | [] => 0
  | b :: l => b.toNat + 256 * le l
theorem le_snoc (l : List UInt8) (b : UInt8) : le (l ++ [b]) = le l + 256 ^ l.length * b.toNat := by
  induction l with
  | nil => simp [le]
  | cons c l ih => simp only [List.cons_append, le, ih, List.length_cons, Nat.pow_succ, Nat.mul_add]; rw [Nat.mul_comm (256 ^ l.length) 256, Nat.mul_assoc]; omega
theorem le_lt (l : List UInt8) : le l < 256 ^ l.length := by
  induction l with
  | nil => simp [le]
  | cons b l ih =>
    simp only [le, List.length_cons, Nat.pow_succ]
    have := b.toNat_lt
    omega
theorem le_numB (k n : Nat) : le (numB k n) = n % 256 ^ k := by
  induction k generalizing n with
  | zero => simp [numB, le, Nat.mod_one]
  | succ k ih =>
    simp only [numB, le, ih, UInt8.toNat_ofNat']
    rw [show 256 ^ (k + 1) = 256 * 256 ^ k by rw [Nat.pow_succ, Nat.mul_comm], Nat.mod_mul]
theorem pow256 (j : Nat) : 256 ^ j = 2 ^ (8 * j) := by rw [Nat.pow_mul]
theorem or_shift (N b j : Nat) (hN : N < 256 ^ j) (hb : b < 256) (hj : j < 8) : bits .or .u64 (N : Int) (IntKind.u64.wrap ((b : Int) * 2 ^ (8 * j))) = ((N + 256 ^ j * b : Nat) : Int) := by
  rw [pow256] at hN ⊢
  have h64 : 2 ^ (8 * j) ≤ 2 ^ 56 := Nat.pow_le_pow_right (by omega) (by omega)
  have hb2 : b * 2 ^ (8 * j) ≤ 255 * 2 ^ 56 := Nat.mul_le_mul (by omega) h64
  have hor := Nat.two_pow_add_eq_or_of_lt hN b
  have e : IntKind.u64.wrap ((b : Int) * 2 ^ (8 * j)) = ((b * 2 ^ (8 * j) : Nat) : Int) := by
    rw [IntKind.wrap_u64, show ((b : Int) * 2 ^ (8 * j)) = ((b * 2 ^ (8 * j) : Nat) : Int) by simp]
    omega
  rw [e, u64_or_nat N (b * 2 ^ (8 * j)) (by omega) (by omega), Nat.or_comm, Nat.mul_comm b, ← hor, Nat.add_comm]

set_option maxHeartbeats 1000000 in
theorem rnum_yes (g h : Nat) (l : List UInt8) (bad : Bool) (s : Int) (w : World) (hr : Rd w g h l bad) (hn : wid s ≤ l.length) :
    Calls Try.prog 75 #[.pointer (some ⟨g, 0, none⟩), .int .i64 s] w fun e w' => e = .returned (.int .u64 (le (l.take (wid s)) : Int)) ∧ Rd w' g h (l.drop (wid s)) bad ∧ w.grownBy w' (some g) := by
  obtain ⟨K, hK⟩ : ∃ K, K = wid s := ⟨_, rfl⟩
  have hK8 : K ≤ 8 := by rw [hK]; exact wid_le s
  rw [← hK] at hn ⊢
  have HK := Lib.hid hK
  have HR := Lib.hid hr
  clear hK hr
  have hlen : (l.take K).length = K := List.length_take_of_le hn
  obtain ⟨m, hm⟩ : ∃ m, m = l.take K := ⟨_, rfl⟩
  rw [← hm] at hlen ⊢
  have HL := Lib.hid hlen
  have HMM := Lib.hid hm
  clear hlen hm
  go_enter Try.func75, Try.ntmps75
  go_wp2_with fail
  ((with_reducible refine (width_any s _).mono ?_); rintro e w' ⟨rfl, hw⟩; rw [← hw]; clear hw w')
  rw [← HK.out]
  go_wp2_with fail
  ((with_reducible refine (take_yes g h l bad K _ HR.out hn).mono ?_); rintro e w1 ⟨A, c, rfl, hKc, hcm, hrow, hrd, hgr⟩)
  have HRD := Lib.hid hrd
  have HGR := Lib.hid hgr
  rw [← HMM.out] at hrow
  clear hrd hgr
  unfold maxLen at hcm
  go_wp2
  go_loop [5, 13] (fun x i => ∃ k : Nat, k ≤ K ∧ i = .int .i64 k ∧ x = .int .u64 (le (m.take k) : Int)) (fun _ i => K - (intOf i).toNat)
  case atStart => exact ⟨0, Nat.zero_le _, rfl, rfl⟩
  case round =>
    obtain ⟨k, hk, rfl, rfl⟩ := hrel
    by_cases hlt : k < K
    · have hkm : k < m.length := by rw [HL.out]; exact hlt
      obtain ⟨a, rfl, _, hcell⟩ := hrow k _ (bv_get hkm)
      have hN := le_lt (m.take k)
      rw [List.length_take_of_le (by omega)] at hN
      have hs := le_snoc (m.take k) m[k]
      rw [← take_snoc m (List.getElem?_eq_getElem hkm), List.length_take_of_le (by omega)] at hs
      obtain ⟨b, hb⟩ : ∃ b, b = m[k].toNat := ⟨_, rfl⟩
      have hb8 : b < 256 := by rw [hb]; exact m[k].toNat_lt
      rw [← hb] at hcell hs
      obtain ⟨N, hNN⟩ : ∃ N, N = le (m.take k) := ⟨_, rfl⟩
      rw [← hNN] at hN hs ⊢
      have ho := or_shift N b k hN hb8 (by omega)
      have HS := Lib.hid hs
      have HO := Lib.hid ho
      clear hb hs hNN ho
      go_wp2
      go_round
      case rel => exact ⟨k + 1, by omega, by go_num, by rw [HO.out, HS.out]⟩
      case measure => simp [intOf]; omega
    · obtain rfl : k = K := by omega
      rw [List.take_of_length_le (by rw [HL.out]; exact Nat.le_refl _)]
      go_wp2
      go_ret
      exact ⟨rfl, HRD.out, HGR.out⟩

set_option maxHeartbeats 1000000 in
theorem rnum_no (g h : Nat) (l : List UInt8) (bad : Bool) (s : Int) (w : World) (hr : Rd w g h l bad) (hn : l.length < wid s) :
    Calls Try.prog 75 #[.pointer (some ⟨g, 0, none⟩), .int .i64 s] w fun e w' => e = .returned (.int .u64 0) ∧ Rd w' g h [] true ∧ w.grownBy w' (some g) := by
  have HR := Lib.hid hr
  clear hr
  go_enter Try.func75, Try.ntmps75
  go_wp2_with fail
  ((with_reducible refine (width_any s _).mono ?_); rintro e w' ⟨rfl, hw⟩; rw [← hw]; clear hw w')
  go_wp2_with fail
  ((with_reducible refine (take_no g h l bad (wid s) _ HR.out hn).mono ?_); rintro e w1 ⟨rfl, hrd, hgr⟩)
  have HRD := Lib.hid hrd
  have HGR := Lib.hid hgr
  clear hrd hgr
  go_wp2
  refine wp_loop_rounds 1 ?_
  rw [rounds_succ]
  go_wp2
  go_ret
  exact ⟨rfl, HRD.out, HGR.out⟩

theorem Rd.keep {w w' : World} {g h : Nat} {l : List UInt8} {bad : Bool} (hr : Rd w g h l bad) (hg : w'.heap[g]? = w.heap[g]?) (hh : w'.heap[h]? = w.heap[h]?) : Rd w' g h l bad := by
  obtain ⟨a1, A, n, c, a2, a3, a4, a5, a6⟩ := hr
  exact ⟨a1, A, n, c, a2, a3, a4, hg.trans a5, far_row hh a6⟩
theorem Rd.lt {w : World} {g h : Nat} {l : List UInt8} {bad : Bool} (hr : Rd w g h l bad) : g < w.heap.size := by
  obtain ⟨_, A, n, c, _, _, _, a5, _⟩ := hr
  exact blk_lt a5
theorem Rd.same {w w' : World} {g h : Nat} {l : List UInt8} {bad : Bool} (hr : Rd w g h l bad) (hb : Below w.heap.size w w') (hh : h < w.heap.size) : Rd w' g h l bad := hr.keep (hb.block g hr.lt) (hb.block h hh)
theorem only_below {a b c : World} {row : Option Nat} (h : a.grownBy b row) (k : Below b.heap.size b c) : a.grownBy c row := only_trans h (only_of_below k row)

theorem of_row {w : World} {A : Option Addr} {h n c : Nat} {l : List UInt8} (hn : n = l.length) (hc : n ≤ c) (hm : c ≤ maxLen) (hrow : ∀ (j : Nat) (u : Value), (bv l)[j]? = some u → ∃ a, A = some a ∧ a.block = h ∧ w.cell? (a.add j) = some u) : Bytes w w.heap.size (.slice A n c) l := by
  subst hn
  refine ⟨A, c, rfl, hc, hm, fun j u hu => ?_⟩
  obtain ⟨a, e, _, hcl⟩ := hrow j u hu
  have := World.block_lt_of_cell? w _ hcl
  rw [add_block] at this
  exact ⟨a, e, this, hcl⟩

set_option maxHeartbeats 1000000 in
theorem newreader_any (v : Value) (l : List UInt8) (w : World) (hv : Bytes w w.heap.size v l) (hl : l.length ≤ 1000000) :
    Calls Try.prog 74 #[v] w fun e w' => ∃ g h, e = .returned (.pointer (some ⟨g, 0, none⟩)) ∧ Rd w' g h l false ∧ w.heap.size ≤ g ∧ w.heap.size ≤ h ∧ h < w'.heap.size ∧ Below w.heap.size w w' := by
  obtain ⟨A, c, rfl, hc, hm, hr⟩ := id hv
  have hb1 := (Below.refl w.heap.size w).alloc (Nat.le_refl _) (.cells #[.slice A l.length c] 44)
  have P2 : Parts (w.alloc (.cells #[.slice A l.length c] 44)) (w.heap.size + 1) (.slice (some ⟨w.heap.size, 0, none⟩) 1 1) [l] := Parts.new (Each.cons hv Each.nil) (Nat.le_refl _) (by simp [maxLen]) 1 rfl _ rfl _ (by omega) _ _ rfl
  have HP2 := Lib.hid P2
  clear hv hr P2
  go_enter Try.func74, Try.ntmps74
  go_wp2_with fail
  have hfl : [l].flatten = l := by simp
  have J := join_any _ _ _ _ (by simp) HP2.out (by rw [hfl]; exact hl)
  rw [hfl] at J
  ((with_reducible refine J.mono ?_); rintro e w3 ⟨g3, c3, rfl, hg3, O3, hb3⟩)
  clear J hfl
  have hb4 := hb1.trans (hb3.mono (by simp))
  have hg4 : w.heap.size ≤ g3 := Nat.le_trans (by simp) hg3
  have HO3 := Lib.hid O3
  have hz := hb4.size
  clear hb3 O3 hg3
  go_wp2
  go_ret
  have O3 := HO3.out
  have hlt := World.ownsRow.lt O3 g3 rfl
  have hsh := O3.shape
  obtain ⟨_, _, hsh1, hsh2, hsh3⟩ := hsh
  cases hsh1
  refine ⟨w3.heap.size, g3, rfl, ⟨by omega, _, _, _, rfl, hsh2, hsh3, heap_alloc_new w3 _, ?_⟩, hz, hg4, by simp; omega, hb4.alloc hz _⟩
  intro j u hu
  have hj := get_lt hu
  rw [bv_length] at hj
  refine ⟨_, rfl, rfl, ?_⟩
  have hc' := World.ownsRow.cells O3 (g := g3) rfl j u hu
  exact (World.cell?_alloc_lt w3 _ _ (by rw [add_block]; exact hlt.2)).trans hc'
end Go.Proofs.Ytppodbijdhcclaa

/- Words for an array of bytes that goes by value. No condition. -/
namespace Go.Proofs.Ytppodbijdhcclaa
open Go.RowKit

/-- the cells of an array of the bytes l -/
def cl (l : List UInt8) : Array Value := (bv l).toArray
/-- the value -/
def ag (l : List UInt8) : Value := .agg (cl l)
section
variable {l : List UInt8}
theorem cl_size (l : List UInt8) : (cl l).size = l.length := by simp [cl, bv]
theorem cl_list (l : List UInt8) : (cl l).toList = bv l := by simp [cl]
theorem cl_get {k : Nat} (h : k < l.length) : (cl l)[k]? = some (.int .u8 (l[k].toNat : Int)) := by
  rw [← Array.getElem?_toList, cl_list, bv_get h]
theorem cl_one (l : List UInt8) : (cl l).all (·.oneCell') = true := Array.all_eq_true_iff_forall_mem.2 fun v hv => bv_one (l := l) (by simpa [cl] using hv)
theorem cl_set (k : Nat) (b : UInt8) : (cl l).setIfInBounds k (.int .u8 (b.toNat : Int)) = cl (l.set k b) := by
  apply Array.toList_inj.1
  rw [Array.toList_setIfInBounds, cl_list, cl_list]
  simp [bv, List.map_set]
end
end Go.Proofs.Ytppodbijdhcclaa

/- The contracts of pack's Reader that give what is left, and bytes. No condition. -/
namespace Go.Proofs.Ytppodbijdhcclaa
open Go.RowKit

theorem left_any (g h : Nat) (l : List UInt8) (bad : Bool) (w : World) (hr : Rd w g h l bad) :
    Calls Try.prog 78 #[.pointer (some ⟨g, 0, none⟩)] w fun e w' => e = .returned (.int .i64 (l.length : Int)) ∧ w = w' := by
  obtain ⟨hgh, A, m, c, rfl, hmc, hcm, hblk, hrow⟩ := hr
  have c0 := blk_cell hblk 0
  clear hblk hrow
  simp at c0
  go_enter Try.func78, Try.ntmps78
  go_wp2
  go_ret
  exact ⟨rfl, rfl⟩
theorem bad_any (g h : Nat) (l : List UInt8) (bad : Bool) (w : World) (hr : Rd w g h l bad) :
    Calls Try.prog 77 #[.pointer (some ⟨g, 0, none⟩)] w fun e w' => e = .returned (.bool bad) ∧ w = w' := by
  obtain ⟨hgh, A, m, c, rfl, hmc, hcm, hblk, hrow⟩ := hr
  have c1 := blk_cell hblk 1
  clear hblk hrow
  simp at c1
  go_enter Try.func77, Try.ntmps77
  go_wp2
  go_ret
  exact ⟨rfl, rfl⟩

set_option maxHeartbeats 1000000 in
theorem rbytes_yes (g h : Nat) (l : List UInt8) (bad : Bool) (n : Int) (w : World) (hr : Rd w g h l bad) (hh : h < w.heap.size) (hn : (max n 0).toNat ≤ l.length) (hl : l.length ≤ 1000000) :
    Calls Try.prog 86 #[.pointer (some ⟨g, 0, none⟩), .int .i64 n] w fun e w' => ∃ g' k c', e = .returned (.slice (some ⟨g', 0, none⟩) k c') ∧ k = (l.take (max n 0).toNat).length ∧ w.heap.size ≤ g' ∧ Own 5 w' w.heap.size (.slice (some ⟨g', 0, none⟩) k c') (l.take (max n 0).toNat) ∧
      Rd w' g h (l.drop (max n 0).toNat) bad ∧ w.grownBy w' (some g) := by
  obtain ⟨K, hK⟩ : ∃ K, K = (max n 0).toNat := ⟨_, rfl⟩
  rw [← hK] at hn ⊢
  have HR := Lib.hid hr
  have HK : Hid (max n 0 = (K : Int)) := Lib.hid (by omega)
  clear hr hK
  have hi : (n < 0 ∧ (0 : Int) = (K : Int)) ∨ (0 ≤ n ∧ n = (K : Int)) := by have := HK.out; omega
  rcases hi with ⟨hs, hi⟩ | ⟨hs, hi⟩
  all_goals
    have HI := Lib.hid hi
    clear hi
    go_enter Try.func86, Try.ntmps86
    go_wp2_with fail
    ((with_reducible refine (take_yes' g h l bad _ K HI.out _ HR.out hn).mono ?_); rintro e w1 ⟨A, c, rfl, hKc, hcm, hrow, hrd, hgr⟩)
    have hlen : K = (l.take K).length := (List.length_take_of_le hn).symm
    have D1 := of_row hlen hKc hcm hrow
    have hz := hgr.size
    have hrd2 := (hrd.same ((Below.refl _ _).alloc (Nat.le_refl _) (.cells #[.slice A K c] 44)) (Nat.lt_of_lt_of_le hh hz))
    have hgr2 := only_alloc hgr (.cells #[.slice A K c] 44)
    have P2 : Parts (w1.alloc (.cells #[.slice A K c] 44)) (w1.heap.size + 1) (.slice (some ⟨w1.heap.size, 0, none⟩) 1 1) [l.take K] := Parts.new (Each.cons D1 Each.nil) (Nat.le_refl _) (by simp [maxLen]) 1 rfl _ rfl _ (by omega) _ _ rfl
    have HRD := Lib.hid hrd2
    have HGR := Lib.hid hgr2
    have HP2 := Lib.hid P2
    have HLEN := Lib.hid hlen
    clear hrd hgr hrow D1 P2 hrd2 hgr2 hlen
    go_wp2_with fail
    have hfl : [l.take K].flatten = l.take K := by simp
    have J := join_any _ _ _ _ (by simp) HP2.out (by rw [hfl, ← HLEN.out]; omega)
    rw [hfl] at J
    ((with_reducible refine J.mono ?_); rintro e w3 ⟨g3, c3, rfl, hg3, O3, hb3⟩)
    clear J
    have HRD3 := Lib.hid (HRD.out.same hb3 (by simp; omega))
    have HGR3 := Lib.hid (only_below HGR.out hb3)
    have O4 : Own 5 w3 w.heap.size (.slice (some ⟨g3, 0, none⟩) (l.take K).length c3) (l.take K) := by
      obtain ⟨x1, x2⟩ := O3
      refine ⟨x1, ?_⟩
      rcases x2 with x2 | ⟨y1, y2, y3, y4, y5, y6⟩
      · exact .inl x2
      · exact .inr ⟨y1, y2, y3, y4, Nat.le_trans (by simp; omega) y5, y6⟩
    have HO4 := Lib.hid O4
    have hg4 : w.heap.size ≤ g3 := Nat.le_trans (by simp; omega) hg3
    clear hb3 O3 O4 hfl hg3
    go_wp2
    go_ret
    have HO5 := HO4.out
    rw [← HLEN.out] at HO5
    exact ⟨g3, K, c3, rfl, HLEN.out, hg4, HO5, HRD3.out, HGR3.out⟩

set_option maxHeartbeats 1000000 in
theorem rbytes_no (g h : Nat) (l : List UInt8) (bad : Bool) (n : Int) (w : World) (hr : Rd w g h l bad) (hh : h < w.heap.size) (hn : l.length < (max n 0).toNat) :
    Calls Try.prog 86 #[.pointer (some ⟨g, 0, none⟩), .int .i64 n] w fun e w' => ∃ g' c', e = .returned (.slice (some ⟨g', 0, none⟩) 0 c') ∧ w.heap.size ≤ g' ∧ Own 5 w' w.heap.size (.slice (some ⟨g', 0, none⟩) 0 c') [] ∧
      Rd w' g h [] true ∧ w.grownBy w' (some g) := by
  obtain ⟨K, hK⟩ : ∃ K, K = (max n 0).toNat := ⟨_, rfl⟩
  rw [← hK] at hn
  have HR := Lib.hid hr
  have HK : Hid (max n 0 = (K : Int)) := Lib.hid (by omega)
  clear hr hK
  have hs : 0 ≤ n := by have := HK.out; omega
  have HI : Hid (n = (K : Int)) := Lib.hid (by have := HK.out; omega)
  go_enter Try.func86, Try.ntmps86
  go_wp2_with fail
  ((with_reducible refine (take_no' g h l bad _ K HI.out _ HR.out hn).mono ?_); rintro e w1 ⟨rfl, hrd, hgr⟩)
  have hz := hgr.size
  have hrd2 := (hrd.same ((Below.refl _ _).alloc (Nat.le_refl _) (.cells #[.slice none 0 0] 44)) (Nat.lt_of_lt_of_le hh hz))
  have hgr2 := only_alloc hgr (.cells #[.slice none 0 0] 44)
  have P2 : Parts (w1.alloc (.cells #[.slice none 0 0] 44)) (w1.heap.size + 1) (.slice (some ⟨w1.heap.size, 0, none⟩) 1 1) [[]] := Parts.new (B := w1.heap.size) (Each.cons ⟨none, 0, rfl, Nat.le_refl _, by simp [maxLen], Row.nil⟩ Each.nil) (Nat.le_refl _) (by simp [maxLen]) 1 rfl _ rfl _ (by omega) _ _ rfl
  have HRD := Lib.hid hrd2
  have HGR := Lib.hid hgr2
  have HP2 := Lib.hid P2
  clear hrd hgr P2 hrd2 hgr2
  go_wp2_with fail
  have J := join_any _ _ _ _ (by simp) HP2.out (by simp)
  have hfl : ([[]] : List (List UInt8)).flatten = [] := rfl
  rw [hfl] at J
  ((with_reducible refine J.mono ?_); rintro e w3 ⟨g3, c3, rfl, hg3, O3, hb3⟩)
  clear J
  have HRD3 := Lib.hid (HRD.out.same hb3 (by simp; omega))
  have HGR3 := Lib.hid (only_below HGR.out hb3)
  have O4 : Own 5 w3 w.heap.size (.slice (some ⟨g3, 0, none⟩) 0 c3) [] := by
    obtain ⟨x1, x2⟩ := O3
    refine ⟨x1, ?_⟩
    rcases x2 with x2 | ⟨y1, y2, y3, y4, y5, y6⟩
    · exact .inl x2
    · exact .inr ⟨y1, y2, y3, y4, Nat.le_trans (by simp; omega) y5, y6⟩
  have HO4 := Lib.hid O4
  have hg4 : w.heap.size ≤ g3 := Nat.le_trans (by simp; omega) hg3
  clear hb3 O3 O4 hfl hg3
  go_wp2
  go_ret
  exact ⟨g3, c3, rfl, hg4, HO4.out, HRD3.out, HGR3.out⟩

end Go.Proofs.Ytppodbijdhcclaa

/- A value of many cells in a region that draws its order. No condition. -/
namespace Go.Proofs.Ytppodbijdhcclaa
open Go.RowKit
/-- from here on more is known of the world -/
theorem wpAnyH_weaken {P : Program} {md : Region.Mode} {ops : Array Oper} {Q : Exit → Act → World → Prop} {S S' : World → Prop} (hS : ∀ w, S' w → S w) : ∀ (fuel : Nat) (listed : Array Bool) (a : Act) (w : World), wpAnyH P md ops Q S' fuel listed a w → wpAnyH P md ops Q S fuel listed a w
  | 0, _, _, _, h => h
  | fuel + 1, _, _, _, h => ⟨h.1, fun i hi => wpOp_mono (fun a' w' h' => ⟨hS w' h'.1, wpAnyH_weaken hS fuel _ a' w' h'.2⟩) (h.2 i hi)⟩
/-- a value of many cells is loaded: it may be taken first -/
theorem yields_seg {P : Program} {ops : Array Oper} {o : Oper} {a : Act} {S : World → Prop} {ty t : TypeId} {g i n : Nat} {cs vs : List Value} (hag : ∀ w, (isAgg ty).run P w = .ok true w) (hsz : ∀ w, (sizeOf ty).run P w = .ok n w) (x : Operand) (ho : o.op = .load ty x) (hgd : Region.wanted o (yielded ops a.tmps) = true)
    (hx : a.eval x = .pointer (some ⟨g, i, none⟩)) (hS : ∀ w, S w → Blk w g t cs) (hv : (cs.drop i).take n = vs) (hn : vs.length = n) : YieldsIf P ops S o (.agg vs.toArray) a :=
  .inl ⟨hgd, fun w hw => by
    unfold execOp
    simp only [ho, hx, Instr.loadAt, Instr.sureAddr, Sem.run_bind, Sem.run_pure, Result.andThen_ok, seg_load hag hsz (hS w hw) hv hn]⟩
/-- .. it is stored, at the operation itself -/
theorem op_seg_store {P : Program} {ty t : TypeId} {g n : Nat} {cs vs : List Value} {o : Oper} {a : Act} {w : World} {K : Act → World → Prop} {Q : Exit → Act → World → Prop} (hsz : ∀ w, (sizeOf ty).run P w = .ok n w)
    (x y : Operand) (ho : o.op = .store ty x y) (hB : Blk w g t cs) (i : Nat) (hn : vs.length = n) (hi : i + n ≤ cs.length) (h1 : ∀ v ∈ vs, v.oneCell' = true) (hx : a.eval x = .pointer (some ⟨g, i, none⟩)) (hy : a.eval y = .agg vs.toArray)
    (cs' : List Value) (hcs : segSet cs i vs = cs') (h : ∀ w', Blk w' g t cs' → w.grownBy w' (some g) → w'.heap.size = w.heap.size → K (a.put o.dst undef) w') : Oper.wp P o a w K Q := by
  subst hcs
  obtain ⟨r1, r2, r3⟩ := hB.seg (segSet cs i vs)
  unfold Oper.wp execOp
  simp only [ho, hx, hy, Instr.storeAt, Instr.sureAddr, Sem.run_bind, Sem.run_pure, Result.andThen_ok, seg_store hsz hB hn hi h1]
  exact h _ r1 r2 r3
/-- .. it is loaded in a region that is walked in the text's order ('go_still_tail') -/
theorem wpStill_seg {P : Program} {ops : Array Oper} {w : World} {Q : Act → Prop} {a : Act} {o : Oper} {rest : List Oper} {ty t : TypeId} {g i n : Nat} {cs vs : List Value} (hag : ∀ w, (isAgg ty).run P w = .ok true w) (hsz : ∀ w, (sizeOf ty).run P w = .ok n w) (x : Operand) (ho : o.op = .load ty x)
    (hgd : Region.wanted o (yielded ops a.tmps) = true) (hB : Blk w g t cs) (hv : (cs.drop i).take n = vs) (hn : vs.length = n) (hx : a.eval x = .pointer (some ⟨g, i, none⟩)) (h : wpStill P ops w Q rest (a.put o.dst (.agg vs.toArray))) : wpStill P ops w Q (o :: rest) a := by
  rw [wpStill, if_pos hgd]
  unfold Oper.still execOp
  simp only [ho, hx, Instr.loadAt, Instr.sureAddr, Sem.run_bind, Sem.run_pure, Result.andThen_ok, seg_load hag hsz hB hv hn]
  rw [Oper.stillUpon_value]
  exact h
/-- the one operation that is ready, by its place -/
theorem wpAnyH_step {P : Program} {md : Region.Mode} {ops : Array Oper} {Q : Exit → Act → World → Prop} {S : World → Prop} {fuel : Nat} {listed : Array Bool} {a : Act} {w : World} (i : Nat) (hr : Region.ready md ops listed = [i]) (hi : decide (i < ops.size) = true)
    (hgd : Region.wanted (ops[i]'(of_decide_eq_true hi)) (yielded ops a.tmps) = true)
    (h : ∀ K' : Act → World → Prop, Shut (∀ a w, S w → (S w → wpAnyH P md ops Q S fuel (listed.setIfInBounds i true) a w) → K' a w) → Oper.wp P (ops[i]'(of_decide_eq_true hi)) a w K' Q) : wpAnyH P md ops Q S (fuel + 1) listed a w :=
  wpAnyH_ready hr (by simp) (AllReadyH.cons (Array.getElem?_eq_getElem (of_decide_eq_true hi)) (fun K hK => by rw [if_pos hgd]; exact h K hK) AllReadyH.nil)
/-- .. it is stored at a step of a region that draws its order -/
theorem step_seg_store {P : Program} {ty t : TypeId} {g n : Nat} {cs vs : List Value} {ops : Array Oper} {o : Oper} {a : Act} {w : World} {K : Act → World → Prop} {Q : Exit → Act → World → Prop} {E : Prop} (hsz : ∀ w, (sizeOf ty).run P w = .ok n w) (hgd : Region.wanted o (yielded ops a.tmps) = true)
    (x y : Operand) (ho : o.op = .store ty x y) (hB : Blk w g t cs) (i : Nat) (hn : vs.length = n) (hi : i + n ≤ cs.length) (h1 : ∀ v ∈ vs, v.oneCell' = true) (hx : a.eval x = .pointer (some ⟨g, i, none⟩)) (hy : a.eval y = .agg vs.toArray)
    (cs' : List Value) (hcs : segSet cs i vs = cs') (h : ∀ w', Blk w' g t cs' → w.grownBy w' (some g) → w'.heap.size = w.heap.size → K (a.put o.dst undef) w') :
    if Region.wanted o (yielded ops a.tmps) = true then Oper.wp P o a w K Q else E := by
  rw [if_pos hgd]
  exact op_seg_store hsz x y ho hB i hn hi h1 hx hy cs' hcs h
/-- .. all its cells are stored -/
theorem seg_cells {P : Program} {w : World} {g : Nat} {t : TypeId} {cs vs : List Value} (hB : Blk w g t cs) (hl : cs.length = vs.length) (h1 : ∀ v ∈ vs, v.oneCell' = true) :
    ∃ w', (storeCells ⟨g, 0, none⟩ vs).run P w = .ok () w' ∧ Blk w' g t vs ∧ w.grownBy w' (some g) ∧ w'.heap.size = w.heap.size := by
  have h := run_storeCells_at P g 0 t vs 0 cs.toArray w hB (by simp; omega) h1
  have e : (cs.toArray.toList.take (0 + 0) ++ vs ++ cs.toArray.toList.drop (0 + 0 + vs.length)) = vs := by simp [List.drop_eq_nil_of_le (Nat.le_of_eq hl)]
  rw [e] at h
  obtain ⟨r1, r2, r3⟩ := hB.seg vs
  exact ⟨_, h, r1, r2, r3⟩
end Go.Proofs.Ytppodbijdhcclaa

/- A page as an array in a block of its own: what loading, storing, and comparing it whole leave. No condition. -/
namespace Go.Proofs.Ytppodbijdhcclaa
open Go.RowKit

/-- a page of noughts -/
def pzeros : List UInt8 := List.replicate 258 0
theorem pzeros_length : pzeros.length = 258 := List.length_replicate
theorem cl_pzeros : Array.replicate 258 (.int .u8 0) = cl pzeros := by
  apply Array.toList_inj.1
  rw [cl_list]
  unfold pzeros bv
  rw [List.map_replicate, Array.toList_replicate]
  rfl
section
variable {w w' : World} {g B : Nat} {L L' : List UInt8}
theorem pgrown_setCell (w : World) (g k : Nat) (v : Value) : w.grownBy (w.setCell ⟨g, k, none⟩ v).drew (some g) :=
  ⟨rfl, rfl, rfl, by simp, fun j _ hj => Below.heap_setCell w _ v j (by simpa using hj)⟩
end
end Go.Proofs.Ytppodbijdhcclaa

/- The contracts of pack's Nums: it answers the bytes, one behind the other, in new memory. Condition: no more than a million bytes. -/
namespace Go.Proofs.Ytppodbijdhcclaa
open Go.RowKit

/-- numbers as values -/
def uv (zs : List Nat) : List Value := zs.map fun n : Nat => Value.int .u64 (n : Int)
theorem uv_length (zs : List Nat) : (uv zs).length = zs.length := by simp [uv]
theorem uv_get {zs : List Nat} {k : Nat} (h : k < zs.length) : (uv zs)[k]? = some (.int .u64 (zs[k] : Int)) := by simp [uv, h]
theorem flat_numB (K : Nat) (zs : List Nat) : (zs.flatMap (numB K)).length = K * zs.length := by
  induction zs with
  | nil => rfl
  | cons n zs ih => rw [List.flatMap_cons, List.length_append, ih, numB_length, List.length_cons, Nat.mul_succ, Nat.add_comm]

set_option maxHeartbeats 1000000 in
theorem nums_any (s : Int) (A : Option Addr) (zs : List Nat) (c : Nat) (w : World) (B : Nat) (hB : B ≤ w.heap.size) (hr : Row w B A (uv zs)) (hz : zs.length ≤ 100000) :
    Calls Try.prog 83 #[.int .i64 s, .slice A zs.length c] w fun e w' => ∃ A' n c', e = .returned (.slice A' n c') ∧ n = (zs.flatMap (numB (wid s))).length ∧ Own 5 w' w.heap.size (.slice A' n c') (zs.flatMap (numB (wid s))) ∧ Below w.heap.size w w' := by
  obtain ⟨K, hK⟩ : ∃ K, K = wid s := ⟨_, rfl⟩
  have hK8 : K ≤ 8 := by rw [hK]; exact wid_le s
  rw [← hK]
  have HK := Lib.hid hK
  clear hK
  have hmul : K * zs.length ≤ 8 * 100000 := Nat.mul_le_mul hK8 hz
  have hmi : (K : Int) * (zs.length : Int) = ((K * zs.length : Nat) : Int) := by simp
  have hmi0 : (0 : Int) ≤ (K : Int) * (zs.length : Int) := by rw [hmi]; omega
  have hmi1 : (K : Int) * (zs.length : Int) ≤ 800000 := by rw [hmi]; omega
  have HM := Lib.hid hmi
  clear hmi
  go_enter Try.func83, Try.ntmps83
  go_wp2_with fail
  ((with_reducible refine (width_any s _).mono ?_); rintro e w' ⟨rfl, hw⟩; rw [← hw]; clear hw w')
  rw [← HK.out]
  go_wp2_with (at_make; refine wpl_make_room byteTys rfl _ (.tmp 12) rfl _ _ _ (K * zs.length) rfl rfl HM.out (by omega) (Nat.le_refl w.heap.size) ?_; intro w1 O1 hb1)
  go_loopw [5, 16] (fun u i wr => ∃ k : Nat, k ≤ zs.length ∧ i = .int .i64 k ∧ ∃ A' n c', u = .slice A' n c' ∧ n = ((zs.take k).flatMap (numB K)).length ∧ Own 5 wr w.heap.size (.slice A' n c') ((zs.take k).flatMap (numB K)) ∧ Below w.heap.size w wr) (fun _ i _ => zs.length - (intOf i).toNat)
  case atStart => exact ⟨0, Nat.zero_le _, rfl, _, _, _, rfl, rfl, O1, hb1⟩
  case round =>
    rename_i wr
    obtain ⟨k, hk, rfl, A', n, c', rfl, hn, hO, hbr⟩ := hrel
    clear O1 hb1
    have HN := Lib.hid hn
    clear hn
    by_cases hlt : k < zs.length
    · obtain ⟨a, rfl, hab, hcell⟩ := hr.at_ (k := k) (by rw [uv_length]; exact hlt)
      have hb : (uv zs)[k]? = some (.int .u64 (zs[k] : Int)) := uv_get hlt
      rw [List.getElem?_eq_getElem (by rw [uv_length]; exact hlt)] at hb
      rw [Option.some.inj hb] at hcell
      clear hb
      have hc2 := (hbr.cell (p := a.add k) (by rw [add_block]; omega)).trans hcell
      obtain ⟨x, hx⟩ : ∃ x, x = zs[k] := ⟨_, rfl⟩
      rw [← hx] at hc2
      have HX : Hid (zs[k]? = some x) := by rw [hx]; exact List.getElem?_eq_getElem hlt
      clear hcell hx
      go_wp2_with fail
      ((with_reducible refine (num_any s x _).mono ?_); rintro e w2 ⟨A2, c2, rfl, O2, hb2⟩)
      rw [← HK.out] at O2 ⊢
      have D2 := Lib.hid (O2.bytes (by rw [numB_length]; simp [maxLen]; omega))
      have O3 := hO.below hb2
      have hb3 := hbr.trans (hb2.mono hbr.size)
      have hz3 := hb3.size
      have hlen : ((zs.take k).flatMap (numB K)).length ≤ 800000 := by
        rw [flat_numB, List.length_take]
        have : K * min k zs.length ≤ 8 * 100000 := Nat.mul_le_mul hK8 (by omega)
        omega
      have h1 : ((zs.take k).flatMap (numB K)).length + (numB K x).length ≤ 1000000 := by rw [numB_length]; omega
      have h2 : ((zs.take k).flatMap (numB K)).length + (numB K x).length = n + K := by rw [numB_length, ← HN.out]
      have H1 := Lib.hid h1
      have H2 := Lib.hid h2
      clear h1 h2 O2 hO
      go_wp2_with (at_builtin; refine wpl_append_bytes byteTys rfl (.tmp 20) (.tmp 23) rfl rfl O3 _ _ _ rfl D2.out H1.out hz3 (n + K) H2.out ?_; intro A7 c7 w7 O7 g7 h7)
      go_roundw
      case rel =>
        have e : (zs.take (k + 1)).flatMap (numB K) = (zs.take k).flatMap (numB K) ++ numB K x := by rw [take_snoc zs HX.out, List.flatMap_append]; simp
        exact ⟨k + 1, by omega, by go_num, A7, n + K, c7, rfl, by rw [e, List.length_append, H2.out], by rw [e]; exact O7, hb3.trans g7⟩
      case measure => simp [intOf]; omega
    · obtain rfl : k = zs.length := by omega
      rw [List.take_length] at hO HN
      go_wp2
      go_ret
      exact ⟨A', n, c', rfl, HN.out, hO, hbr⟩
end Go.Proofs.Ytppodbijdhcclaa

