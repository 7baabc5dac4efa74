/- What the cards of the laws over scripts share: the facts on types, the table of bytes, one step of a script as it lies. -/
import Derived.Test.YtppcnlkhdgmaiaaGreatDoorCards
import Derived.Test.YtppcnlkhdgmaiaaGreatDoorTie
import Derived.Test.YtppcnlkhdgmaiaaGreatDoorLa
import Derived.WalkKit
import Derived.ProofKit
import Derived.OpenShut
import Derived.Deep.DeepHandedRow
import Derived.Deep.Slices
import Derived.Lib.LaidTab
import Derived.LaidSub
import Derived.Lay
import Derived.MakeChecks
namespace Go.Proofs.YtppcnlkhdgmaiaaGreatDoor
open Go.ChangeShapes Go.WideShapes Go.ChangeAt Go.RowKit Go.Deep

theorem own : ownKnob Tryz.prog.godebug = none := by kernel_rfl
theorem laidOut : laidOutB Tryz.prog = true := by kernel_rfl
theorem gTab : Tryz.prog.globalNamed "hatch/hatch.byteKinds" = some 1 := by kernel_rfl
theorem gTabType : (Tryz.prog.globals[1]?).map (·.type) = some 182 := by kernel_rfl
theorem cells182 : Tryz.prog.cellsOf 182 = 128 := by kernel_rfl
theorem cellsU8 : Tryz.prog.cellsOf 5 = 1 := by kernel_rfl
theorem cells26 : Tryz.prog.cellsOf 26 = 4 := by kernel_rfl
theorem cells3 : Tryz.prog.cellsOf 3 = 1 := by kernel_rfl
theorem cells9 : Tryz.prog.cellsOf 9 = 1 := by kernel_rfl

def tabNums : List Int := [0, 0, 0, 0, 0, 0, 0, 0, 0, 0, 0, 0, 0, 0, 0, 0, 0, 0, 0, 0, 0, 0, 0, 0, 0, 0, 0, 0, 0, 0, 0, 0, 0, 0, 0, 0, 0, 0, 0, 0, 0, 0, 0, 9, 5, 9, 0, 9, 1, 2, 2, 2, 2, 2, 2, 2, 2, 2, 9, 9, 7, 9, 8, 0, 9, 0, 0, 0, 0, 0, 0, 0, 0, 0, 0, 0, 0, 0, 0, 0, 0, 0, 0, 0, 0, 0, 0, 0, 0, 0, 0, 0, 0, 0, 0, 0, 0, 3, 3, 3, 3, 4, 4, 4, 4, 4, 4, 4, 4, 4, 4, 4, 4, 4, 4, 4, 4, 4, 4, 4, 4, 4, 4, 0, 0, 0, 6, 0]
theorem tabNums_kind : ∀ i : Nat, i < 128 → tabNums.getD i 0 = (Hx.kindOf i : Int) := by decide

set_option maxRecDepth 100000 in
/-- One step of the script, as it lies. -/
theorem step_cells {H : Type} {enc : TypeId × Value → H} {W : World} {b off i n : Nat} {cs : List Value} {x : DataW H × List MemPlace} {spare : Nat → Bool} {held : Bool}
    (h1 : W.cells? 0 ((⟨b, off, none⟩ : Addr).add (i * Tryz.prog.cellsOf 26)) (Tryz.prog.cellsOf 26) = some cs) (h2 : DataW.trod enc Tryz.prog W 0 spare held n 26 cs = some x) :
    ∃ (k m : Int) (s t : ByteArray), W.cell? ⟨b, off + i * 4, none⟩ = some (.int .i64 k) ∧ W.cell? ⟨b, off + i * 4 + 1, none⟩ = some (.int .i64 m) ∧ W.cell? ⟨b, off + i * 4 + 2, none⟩ = some (.string s) ∧ W.cell? ⟨b, off + i * 4 + 3, none⟩ = some (.string t) ∧ s.size ≤ maxLen ∧ t.size ≤ maxLen := by
  rw [cells26] at h1
  obtain ⟨_, hlen, hcell⟩ := World.cells?_some h1
  obtain ⟨xs, k, _, _, _, hxl, hf⟩ := DataW.trod_struct Tryz.underlying26 h2
  have ad : ∀ j, ((⟨b, off, none⟩ : Addr).add (i * 4)).add j = ⟨b, off + i * 4 + j, none⟩ := by
    intro j
    rw [add_add]
    unfold Addr.add
    split
    · have : i * 4 + j = 0 := by assumption
      have e1 : i * 4 = 0 := by omega
      have e2 : j = 0 := by omega
      rw [e1, e2]; rfl
    · simp only [Nat.add_assoc]
  match cs, hlen with
  | [v0, v1, v2, v3], _ =>
    have g0 := hf 0 _ rfl
    have g1 := hf 1 _ rfl
    have g2 := hf 2 _ rfl
    have g3 := hf 3 _ rfl
    match xs, hxl with
    | [y0, y1, y2, y3], _ =>
      simp [cells3, cells9] at g0 g1 g2 g3
      obtain ⟨q0, e0, _, _⟩ := DataW.trod_int Tryz.underlying3 g0
      obtain ⟨q1, e1, _, _⟩ := DataW.trod_int Tryz.underlying3 g1
      obtain ⟨q2, e2, _, hs⟩ := DataW.trod_string Tryz.underlying9 g2
      obtain ⟨q3, e3, _, hs2⟩ := DataW.trod_string Tryz.underlying9 g3
      simp at e0 e1 e2 e3
      subst e0 e1 e2 e3
      have c0 := hcell 0 (by omega)
      have c1 := hcell 1 (by omega)
      have c2 := hcell 2 (by omega)
      have c3 := hcell 3 (by omega)
      rw [ad] at c0 c1 c2 c3
      exact ⟨q0, q1, q2, q3, c0, c1, c2, c3, hs, hs2⟩

end Go.Proofs.YtppcnlkhdgmaiaaGreatDoor
