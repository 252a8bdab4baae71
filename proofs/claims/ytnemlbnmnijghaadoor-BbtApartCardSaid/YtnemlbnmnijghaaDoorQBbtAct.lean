/- The contract of the laws' own call of a table. Condition: the table is there, and its layout; few acts so far. -/
import Derived.Test.YtnemlbnmnijghaaDoorQBbtDo
import Derived.Test.YtnemlbnmnijghaaDoorQBbtOps
namespace Go.Proofs.YtnemlbnmnijghaaDoor
open Go.RowKit
/-- is the call a Lose? -/
def Op5.lose (o : Op5) : Bool := bits .and .i64 o.k 1 == 0
def Ch.doing (S : Ch) (s : NM.Pwr) (l : Lay) (o : Op5) (b : Int) : Ch × NM.Pwr × Int := if o.lose then S.losing s l b else S.swapping s l o.l b
def Ch.doLay (S : Ch) (s : NM.Pwr) (l : Lay) (o : Op5) (b : Int) : Lay := if o.lose then S.lostLay s l b else S.swapLay s l o.l b
section
variable {w : World} {t : Nat} {a : At} {l : Lay} {S : Ch} {s : NM.Pwr}
set_option maxRecDepth 100000 in
set_option maxHeartbeats 4000000 in
theorem bdo_any (o : Op5) (hT : Tb w t a l) (hok : l.ok) (hat : ∀ x ∈ l.at_, x < 40) (hD : Dev w a S s) (hsm : S.few 999700) (b : Int) :
    Calls Tryd.prog 19 #[.pointer (some ⟨t, 0, none⟩), .agg o.row.toArray, .int .i64 b] w fun e w' => e = .returned (.int .i64 (S.doing s l o b).2.2) ∧ Dev w' a (S.doing s l o b).1 (S.doing s l o b).2.1 ∧ Tb w' t a (S.doLay s l o b) ∧ Chg w w' (fun j => a.all j ∨ j = t) := by
  have hb0 : Below w.heap.size w (w.alloc (.cells o.row.toArray 39)) := (Below.refl _ _).alloc (Nat.le_refl _) _
  have B0 := Blk.new w 39 o.row
  have c0 : (w.alloc (.cells o.row.toArray 39)).cell? ⟨w.heap.size, 0, none⟩ = some (.int .i64 o.k) := B0.cell 0
  have c1 : (w.alloc (.cells o.row.toArray 39)).cell? ⟨w.heap.size, 1, none⟩ = some (.int .i64 o.l) := B0.cell 1
  have k1 := tlose_any (hT.after hb0) hok hat (hD.after hb0) hsm b
  have k2 := tswap_any (hT.after hb0) hok hat (hD.after hb0) hsm o.l b
  unfold Ch.doing Ch.doLay
  obtain ⟨d, hd⟩ : ∃ d, d = o.lose := ⟨_, rfl⟩
  have d1 : (bits .and .i64 o.k 1 == 0) = d := hd.symm
  rw [← hd]
  have HB := Lib.hid hb0
  clear B0 hT hok hat hD hsm hd hb0
  obtain ⟨ok, ol, ob, ole, obi⟩ := o
  simp only at c0 c1 k1 k2 d1 ⊢
  cases d with
  | true =>
    clear k2
    go_enter Tryd.func19, Tryd.ntmps19
    go_wp2_with ((with_reducible refine k1.mono ?_); rintro e w2 ⟨rfl, D2, T2, q2⟩)
    go_ret
    exact ⟨rfl, D2, T2, (Chg.of_below HB.out).trans q2⟩
  | false =>
    clear k1
    go_enter Tryd.func19, Tryd.ntmps19
    go_wp2_with ((with_reducible refine k2.mono ?_); rintro e w2 ⟨rfl, D2, T2, q2⟩)
    go_ret
    exact ⟨rfl, D2, T2, (Chg.of_below HB.out).trans q2⟩
end
end Go.Proofs.YtnemlbnmnijghaaDoor

