/- Words for memory: what slices of values, slices of bytes, and lists of slices of bytes read as, and that it stays while nothing below a block is written. No condition. -/
import Derived.WalkKit
import Derived.Lib.Hide
namespace Go.Proofs.Ytdmganpblkepfaa
open Go.RowKit

theorem add_block (a : Addr) (n : Nat) : (a.add n).block = a.block := by unfold Addr.add; split <;> rfl
theorem add_twice (a : Addr) (i j : Nat) : (a.add i).add j = a.add (i + j) := by
  unfold Addr.add
  by_cases hi : i = 0 <;> by_cases hj : j = 0 <;> simp [hi, hj, Nat.add_assoc]

/-- behind the address A, below block B, lie the cells xs -/
def Row (w : World) (B : Nat) (A : Option Addr) (xs : List Value) : Prop :=
  ∀ j u, xs[j]? = some u → ∃ a, A = some a ∧ a.block < B ∧ w.cell? (a.add j) = some u
def bv (l : List UInt8) : List Value := l.map fun b => Value.int .u8 (b.toNat : Int)
/-- v is a slice of the bytes l -/
def Bytes (w : World) (B : Nat) (v : Value) (l : List UInt8) : Prop :=
  ∃ A c, v = .slice A l.length c ∧ l.length ≤ c ∧ c ≤ maxLen ∧ Row w B A (bv l)
/-- the values vs are slices of the bytes L, one by one -/
def Each (w : World) (B : Nat) (vs : List Value) (L : List (List UInt8)) : Prop :=
  vs.length = L.length ∧ ∀ (i : Nat) (v : Value), vs[i]? = some v → ∃ l, L[i]? = some l ∧ Bytes w B v l
/-- v is a slice of slices of the bytes L, one by one -/
def Parts (w : World) (B : Nat) (v : Value) (L : List (List UInt8)) : Prop :=
  ∃ A c vs, v = .slice A vs.length c ∧ Row w B A vs ∧ Each w B vs L ∧ vs.length ≤ maxLen

section
variable {w w' : World} {B B' : Nat} {A : Option Addr} {xs : List Value} {v : Value} {l : List UInt8} {vs : List Value} {L : List (List UInt8)}
theorem bv_length (l : List UInt8) : (bv l).length = l.length := by simp [bv]
theorem bv_get {k : Nat} (h : k < l.length) : (bv l)[k]? = some (.int .u8 (l[k].toNat : Int)) := by simp [bv, h]
theorem bv_append (l m : List UInt8) : bv (l ++ m) = bv l ++ bv m := by simp [bv]
theorem bv_one {u : Value} (h : u ∈ bv l) : u.oneCell' = true := by
  simp only [bv, List.mem_map] at h
  obtain ⟨b, _, rfl⟩ := h
  rfl
theorem Row.nil : Row w B A [] := fun j u h => by simp at h
theorem Row.at_ (h : Row w B A xs) {k : Nat} (hk : k < xs.length) : ∃ a, A = some a ∧ a.block < B ∧ w.cell? (a.add k) = some xs[k] := h k _ (List.getElem?_eq_getElem hk)
theorem Row.keep (h : Row w B A xs) (hk : ∀ p : Addr, p.block < B → w'.cell? p = w.cell? p) : Row w' B A xs := fun j u hu => by
  obtain ⟨a, e, hb, hc⟩ := h j u hu
  exact ⟨a, e, hb, (hk _ (by rw [add_block]; exact hb)).trans hc⟩
theorem Row.more (h : Row w B A xs) (hB : B ≤ B') : Row w B' A xs := fun j u hu => by
  obtain ⟨a, e, hb, hc⟩ := h j u hu
  exact ⟨a, e, by omega, hc⟩
theorem Row.below (h : Row w B A xs) (hb : Below B w w') : Row w' B A xs := h.keep fun _ hp => hb.cell hp
theorem Bytes.keep (h : Bytes w B v l) (hk : ∀ p : Addr, p.block < B → w'.cell? p = w.cell? p) : Bytes w' B v l := by
  obtain ⟨A, c, e, h1, h2, h3⟩ := h
  exact ⟨A, c, e, h1, h2, h3.keep hk⟩
theorem Bytes.more (h : Bytes w B v l) (hB : B ≤ B') : Bytes w B' v l := by
  obtain ⟨A, c, e, h1, h2, h3⟩ := h
  exact ⟨A, c, e, h1, h2, h3.more hB⟩
theorem Bytes.below (h : Bytes w B v l) (hb : Below B w w') : Bytes w' B v l := h.keep fun _ hp => hb.cell hp
theorem Each.keep (h : Each w B vs L) (hk : ∀ p : Addr, p.block < B → w'.cell? p = w.cell? p) : Each w' B vs L :=
  ⟨h.1, fun i v hv => by obtain ⟨l, hl, hb⟩ := h.2 i v hv; exact ⟨l, hl, hb.keep hk⟩⟩
theorem Each.more (h : Each w B vs L) (hB : B ≤ B') : Each w B' vs L :=
  ⟨h.1, fun i v hv => by obtain ⟨l, hl, hb⟩ := h.2 i v hv; exact ⟨l, hl, hb.more hB⟩⟩
theorem Each.below (h : Each w B vs L) (hb : Below B w w') : Each w' B vs L := h.keep fun _ hp => hb.cell hp
theorem Each.at_ (h : Each w B vs L) {k : Nat} (hk : k < vs.length) : ∃ l, L[k]? = some l ∧ Bytes w B vs[k] l := h.2 k _ (List.getElem?_eq_getElem hk)
theorem Each.nil : Each w B [] [] := ⟨rfl, fun i v h => by simp at h⟩
theorem Each.cons {v : Value} {l : List UInt8} (h : Bytes w B v l) (hs : Each w B vs L) : Each w B (v :: vs) (l :: L) :=
  ⟨by simp [hs.1], fun i u hu => by
    cases i with
    | zero =>
      simp only [List.getElem?_cons_zero, Option.some.injEq] at hu
      subst hu
      exact ⟨l, by simp, h⟩
    | succ i =>
      obtain ⟨m, hm, hb⟩ := hs.2 i u (by simpa using hu)
      exact ⟨m, by simpa using hm, hb⟩⟩
theorem Parts.keep (h : Parts w B v L) (hk : ∀ p : Addr, p.block < B → w'.cell? p = w.cell? p) : Parts w' B v L := by
  obtain ⟨A, c, vs, e, h1, h2, h3⟩ := h
  exact ⟨A, c, vs, e, h1.keep hk, h2.keep hk, h3⟩
theorem Parts.more (h : Parts w B v L) (hB : B ≤ B') : Parts w B' v L := by
  obtain ⟨A, c, vs, e, h1, h2, h3⟩ := h
  exact ⟨A, c, vs, e, h1.more hB, h2.more hB, h3⟩
theorem Parts.below (h : Parts w B v L) (hb : Below B w w') : Parts w' B v L := h.keep fun _ hp => hb.cell hp
theorem Parts.nil (c : Nat) : Parts w B (.slice none 0 c) [] := ⟨none, c, [], rfl, Row.nil, Each.nil, by simp⟩
/-- the cells of a new block -/
theorem Row.new (w : World) (C : Array Value) (t : TypeId) (fr : Nat × Nat) (g : Nat) (hg : g = w.heap.size) (hB : g < B) : Row (w.alloc (.cells C t fr)) B (some ⟨g, 0, none⟩) C.toList := fun j u hu => by
  subst hg
  refine ⟨_, rfl, hB, ?_⟩
  have hadd : (⟨w.heap.size, 0, none⟩ : Addr).add j = ⟨w.heap.size, j, none⟩ := by unfold Addr.add; split <;> simp_all
  rw [hadd, World.cell?_alloc_mark]
  simpa using hu
theorem Row.alloc (h : Row w B A xs) (hB : B ≤ w.heap.size) (o : Obj) : Row (w.alloc o) B A xs := h.below ((Below.refl B w).alloc hB o)
theorem Bytes.alloc (h : Bytes w B v l) (hB : B ≤ w.heap.size) (o : Obj) : Bytes (w.alloc o) B v l := h.below ((Below.refl B w).alloc hB o)
theorem Each.alloc (h : Each w B vs L) (hB : B ≤ w.heap.size) (o : Obj) : Each (w.alloc o) B vs L := h.below ((Below.refl B w).alloc hB o)
theorem Parts.alloc (h : Parts w B v L) (hB : B ≤ w.heap.size) (o : Obj) : Parts (w.alloc o) B v L := h.below ((Below.refl B w).alloc hB o)
/-- a list of slices just built -/
theorem Parts.new (h : Each w B vs L) (hB : B ≤ w.heap.size) (hl : vs.length ≤ maxLen) (n : Nat) (hn : vs.length = n) (g : Nat) (hg : g = w.heap.size) (B' : Nat) (hB' : g < B') (t : TypeId) (C : Array Value) (hC : C.toList = vs) :
    Parts (w.alloc (.cells C t)) B' (.slice (some ⟨g, 0, none⟩) n n) L := by
  subst hn hC
  exact ⟨_, _, C.toList, rfl, Row.new w C t (0, 0) g hg hB', (h.alloc hB _).more (by omega), hl⟩
/-- bytes just built -/
theorem Bytes.lit (w : World) (l : List UInt8) (n : Nat) (hn : l.length = n) (hl : n ≤ maxLen) (C : Array Value) (hC : C.toList = bv l) (t : TypeId) (fr : Nat × Nat) (g : Nat) (hg : g = w.heap.size) (B' : Nat) (hB' : g < B') :
    Bytes (w.alloc (.cells C t fr)) B' (.slice (some ⟨g, 0, none⟩) n n) l := by
  subst hn
  exact ⟨_, _, rfl, Nat.le_refl _, hl, hC ▸ Row.new w C t fr g hg hB'⟩
/-- v is a slice of slices whose bytes, one behind the other, are l -/
def Joined (w : World) (B : Nat) (v : Value) (l : List UInt8) : Prop := ∃ L, Parts w B v L ∧ L.flatten = l
theorem Joined.keep (h : Joined w B v l) (hk : ∀ p : Addr, p.block < B → w'.cell? p = w.cell? p) : Joined w' B v l := by
  obtain ⟨L, h1, h2⟩ := h
  exact ⟨L, h1.keep hk, h2⟩
theorem Joined.nil (c : Nat) : Joined w B (.slice none 0 c) [] := ⟨[], Parts.nil c, rfl⟩
theorem Joined.one {u : Value} (h : Bytes w B u l) (hB : B ≤ w.heap.size) (g : Nat) (hg : g = w.heap.size) (B' : Nat) (hB' : g < B') (t : TypeId) : Joined (w.alloc (.cells #[u] t)) B' (.slice (some ⟨g, 0, none⟩) 1 1) l :=
  ⟨[l], Parts.new (Each.cons h Each.nil) hB (by simp [maxLen]) 1 rfl g hg B' hB' t _ rfl, by simp⟩
theorem Joined.two {u v : Value} {m : List UInt8} (h : Bytes w B u l) (k : Bytes w B v m) (hB : B ≤ w.heap.size) (g : Nat) (hg : g = w.heap.size) (B' : Nat) (hB' : g < B') (t : TypeId) : Joined (w.alloc (.cells #[u, v] t)) B' (.slice (some ⟨g, 0, none⟩) 2 2) (l ++ m) :=
  ⟨[l, m], Parts.new (Each.cons h (Each.cons k Each.nil)) hB (by simp [maxLen]) 2 rfl g hg B' hB' t _ rfl, by simp⟩
theorem Joined.three {u v x : Value} {m n : List UInt8} (h : Bytes w B u l) (k : Bytes w B v m) (j : Bytes w B x n) (hB : B ≤ w.heap.size) (g : Nat) (hg : g = w.heap.size) (B' : Nat) (hB' : g < B') (t : TypeId) : Joined (w.alloc (.cells #[u, v, x] t)) B' (.slice (some ⟨g, 0, none⟩) 3 3) (l ++ (m ++ n)) :=
  ⟨[l, m, n], Parts.new (Each.cons h (Each.cons k (Each.cons j Each.nil))) hB (by simp [maxLen]) 3 rfl g hg B' hB' t _ rfl, by simp⟩
theorem take_snoc {α : Type} (l : List α) {k : Nat} {x : α} (h : l[k]? = some x) : l.take (k + 1) = l.take k ++ [x] := by
  have hk : k < l.length := by
    rcases Nat.lt_or_ge k l.length with h' | h'
    · exact h'
    · rw [List.getElem?_eq_none h'] at h; cases h
  rw [List.take_succ_eq_append_getElem hk]
  rw [List.getElem?_eq_getElem hk] at h
  rw [Option.some.inj h]
theorem get_lt {α : Type} {l : List α} {k : Nat} {x : α} (h : l[k]? = some x) : k < l.length := by
  rcases Nat.lt_or_ge k l.length with h' | h'
  · exact h'
  · rw [List.getElem?_eq_none h'] at h; cases h
end
theorem u32_of_wf {s : Int} (h : (Lit.int .u32 s).wf = true) : ∃ n : Nat, s = n ∧ n < 4294967296 := by
  simp only [Lit.wf, Bool.and_eq_true, IntKind.min, IntKind.max, IntKind.signed, IntKind.bits] at h
  simp at h
  exact ⟨s.toNat, by omega, by omega⟩
theorem u16_of_wf {s : Int} (h : (Lit.int .u16 s).wf = true) : ∃ n : Nat, s = n ∧ n < 65536 := by
  simp only [Lit.wf, Bool.and_eq_true, IntKind.min, IntKind.max, IntKind.signed, IntKind.bits] at h
  simp at h
  exact ⟨s.toNat, by omega, by omega⟩
end Go.Proofs.Ytdmganpblkepfaa
