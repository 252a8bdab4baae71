/- The contract of bbt's write: a table's page. Condition: the table of the check sum holds its sixteen numbers. -/
import Derived.Test.YtdiocjneakfdgaaGreatDoorQBbtRead
namespace Go.Proofs.YtdiocjneakfdgaaGreatDoor
open Go.RowKit
/-- the page of a table -/
def tpage (n : Nat) (l : Lay) : List UInt8 := FM.page 1 (numB 8 n ++ l.bytes)
theorem Lay.bytes_length {l : Lay} (h : l.ok) : l.bytes.length ≤ 75 := by
  unfold Lay.bytes
  rw [flat_numB]
  have := Lay.list_length h
  omega
theorem tbody_length {n : Nat} {l : Lay} (h : l.ok) : (numB 8 n ++ l.bytes).length ≤ 83 := by
  rw [List.length_append, numB_length]
  have := Lay.bytes_length h
  omega
theorem tpage_length {n : Nat} {l : Lay} (h : l.ok) : (tpage n l).length = 258 := FM.page_length _ _ (by have := tbody_length (n := n) h; omega)
theorem tpage_write {n : Nat} {l : Lay} (h : l.ok) : (FM.writeM 1 (numB 8 n ++ l.bytes)).1 = tpage n l ∧ (FM.writeM 1 (numB 8 n ++ l.bytes)).2 = 0 := by
  have := tbody_length (n := n) h
  unfold FM.writeM tpage
  rw [if_neg (by
    rintro (h | h | h)
    · exact absurd h (by decide)
    · exact absurd h (by decide)
    · omega)]
  exact ⟨rfl, rfl⟩
theorem pret1' {fn : Func} {p : Tmp} {w : World} {g : Nat} {L : List UInt8} (h : fn.results = #[.cell p 92]) (tmps : Array Value) (hA : PArr w g L) (hp : tmps.getD p undef = .pointer (some ⟨g, 0, none⟩)) :
    (results fn tmps).run Tryz.prog w = .ok (.agg (cl L)) w := by
  have hp' : tmps[p]?.getD undef = .pointer (some ⟨g, 0, none⟩) := by simpa using hp
  simp [results, h, hp', asAddr, hA.load]
set_option maxRecDepth 100000 in
set_option maxHeartbeats 8000000 in
theorem twrite_any (n : Nat) (l : Lay) (hl : l.ok) (hat : ∀ x ∈ l.at_, x < 1000) (w : World) (ht : Tab w) :
    Calls Tryz.prog 94 #[.int .u64 (n : Int), .agg l.row.toArray] w fun e w' => e = .returned (.agg (cl (tpage n l))) ∧ Below w.heap.size w w' := by
  have z := zeroPage
  have b0 : Below w.heap.size w ((w.alloc (.cells l.row.toArray 123)).alloc (.cells (cl pzeros) 92)) := ((Below.refl _ _).alloc (Nat.le_refl _) _).alloc (by simp) _
  have P0 : PArr ((w.alloc (.cells l.row.toArray 123)).alloc (.cells (cl pzeros) 92)) (w.heap.size + 1) pzeros := by
    have := PArr.new (w.alloc (.cells l.row.toArray 123)) pzeros_length
    rw [World.size_alloc] at this
    exact this
  have L0 : Blk ((w.alloc (.cells l.row.toArray 123)).alloc (.cells (cl pzeros) 92)) w.heap.size 123 l.row := (Blk.new w _ _).alloc _
  have hrl := Lay.row_length hl
  have HT := Lib.hid ht
  have HB := Lib.hid b0
  have HP := Lib.hid P0
  have HL := Lib.hid L0
  have HA := Lib.hid hat
  have HOK := Lib.hid hl
  have HRL := Lib.hid hrl
  have k1 := num_any 8 n ((w.alloc (.cells l.row.toArray 123)).alloc (.cells (cl pzeros) 92))
  rw [show wid 8 = 8 from rfl] at k1
  clear b0 P0 L0 ht hat hl hrl
  go_enter Tryz.func94, Tryz.ntmps94
  go_wp2_with fail
  ((with_reducible refine k1.mono ?_); rintro e w1 ⟨A1, c1, rfl, O1, b1⟩)
  have B1 := Lib.hid (HB.out.trans (b1.mono HB.out.size))
  have P1 := Lib.hid (HP.out.after b1)
  have L1 : Hid (LayAt w1 w.heap.size 0 l) := Lib.hid ((HL.out.after b1).lay HOK.out (by rw [List.drop_zero, List.take_of_length_le (by rw [HRL.out]; exact Nat.le_refl _)]))
  have Y1 := Lib.hid (O1.bytes (by rw [numB_length]; simp [maxLen]))
  have k2 := lbytes_any w.heap.size 0 l w1 L1.out HA.out
  clear k1 HB HP HL O1 b1
  go_wp2_with fail
  ((with_reducible refine k2.mono ?_); rintro e w2 ⟨A2, n2, c2, rfl, hn2, O2, b2⟩)
  have B2 := Lib.hid (B1.out.trans (b2.mono B1.out.size))
  have P2 := Lib.hid (P1.out.after b2)
  have hbl := Lay.bytes_length HOK.out
  have Y2 := Lib.hid ((Bytes.below Y1.out b2).more b2.size)
  have X2 := Lib.hid (O2.bytes (by simp only [maxLen]; omega))
  have HN2 := Lib.hid hn2
  clear k2 B1 P1 L1 Y1 O2 b2 hn2 hbl
  have J3 := Joined.two Y2.out X2.out (Nat.le_refl _) w2.heap.size rfl (w2.heap.size + 1) (Nat.lt_succ_self _) 62
  obtain ⟨Ls, hLs, hfl⟩ := J3
  have b3 : Below w2.heap.size w2 (w2.alloc (.cells #[.slice A1 8 c1, .slice A2 n2 c2] 62)) := (Below.refl _ _).alloc (Nat.le_refl _) _
  have B3 := Lib.hid (B2.out.trans (b3.mono B2.out.size))
  have P3 := Lib.hid (P2.out.after b3)
  have hfb := tbody_length (n := n) HOK.out
  have k3 := write_any 1 _ Ls _ (w2.heap.size + 1) (by simp) hLs (HT.out.below B3.out HT.out.lt) (by rw [hfl]; omega)
  rw [hfl, (tpage_write HOK.out).1, (tpage_write HOK.out).2, show (((1 : UInt8).toNat : Nat) : Int) = 1 from rfl, show ((0 : Nat) : Int) = 0 from rfl] at k3
  have HTP := Lib.hid (tpage_length (n := n) HOK.out)
  obtain ⟨pg, hpg⟩ : ∃ pg, pg = tpage n l := ⟨_, rfl⟩
  rw [← hpg] at k3 HTP
  have HPG := Lib.hid hpg
  clear hLs hfl b3 hfb P2 B2 Y2 X2 hpg
  go_wp2_with (first
    | ((with_reducible refine k3.mono ?_); rintro e w4 ⟨rfl, b4⟩; have hb5 := Lib.hid (B3.out.trans (b4.mono B3.out.size)); have P5 := (P3.out.after b4).alloc (.cells (cl pzeros) 92); have N5 := PArr.new w4 pzeros_length)
    | (with_reducible refine wpl_pstore (.tmp 5) (.tmp 13) rfl rfl N5 rfl HTP.out rfl ?_; intro w6 N6 g6 e6; have P6 := P5.grown g6 (by have := (P3.out.after b4).lt; omega))
    | (with_reducible refine wpl_pload (.tmp 5) rfl rfl N6 rfl ?_)
    | (with_reducible refine wpl_pstore (.tmp 4) (.tmp 15) rfl rfl P6 rfl HTP.out rfl ?_; intro w7 P7 g7 e7))
  refine bodyPost_ret (pret1' rfl _ P7 rfl) rfl ?_
  rw [← HPG.out]
  exact ⟨rfl, ((hb5.out.alloc hb5.out.size (.cells (cl pzeros) 92)).grown g6 (by rw [World.size_alloc]; have := hb5.out.size; omega) (fun k e => by cases e; exact hb5.out.size)).grown g7 (by rw [e6, World.size_alloc]; have := hb5.out.size; omega) (fun k e => by cases e; omega)⟩
end Go.Proofs.YtdiocjneakfdgaaGreatDoor

