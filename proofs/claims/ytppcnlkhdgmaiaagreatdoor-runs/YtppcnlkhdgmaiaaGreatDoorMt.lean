/- What the cards of laws that run the machine share: the tables of bytes, of outcomes and of powers of ten, as a row lists them. -/
import Derived.Test.YtppcnlkhdgmaiaaGreatDoorMc
import Derived.Test.YtppcnlkhdgmaiaaGreatDoorLaR
namespace Go.Proofs.YtppcnlkhdgmaiaaGreatDoor
open Go.ChangeShapes Go.WideShapes Go.ChangeAt Go.RowKit Go.Deep

theorem gOnm : Tryz.prog.globalNamed "hatch/hatch.outcomeNames" = some 0 := by kernel_rfl
theorem gOnmType : (Tryz.prog.globals[0]?).map (·.type) = some 144 := by kernel_rfl
theorem cellsOnm : Tryz.prog.cellsOf 144 = 12 := by kernel_rfl
theorem cellsOn1 : Tryz.prog.cellsOf 143 = 2 := by kernel_rfl
theorem cells4 : Tryz.prog.cellsOf 4 = 1 := by kernel_rfl
theorem gP10 : Tryz.prog.globalNamed "internal/strconv.uint64pow10" = some 2 := by kernel_rfl
theorem gP10Type : (Tryz.prog.globals[2]?).map (·.type) = some 191 := by kernel_rfl
theorem cellsP10 : Tryz.prog.cellsOf 191 = 20 := by kernel_rfl
theorem cellsU64 : Tryz.prog.cellsOf 178 = 1 := by kernel_rfl

/-- The table of outcomes, as the row lists it. -/
def onmData : DataW Unit := .agg ((List.range 6).map fun i => .agg [.lit (.string (Hx.outB i)), .lit (.bool (decide (2 ≤ i)))])

set_option maxRecDepth 100000 in
theorem onm_of {W : World} (h : laidMet Tryz.prog [("hatch/hatch.outcomeNames", onmData)] W) : Onm W := by
  obtain ⟨ps, ⟨g', t', cs, fuel, p, q, hg', ht', hvar, hd, _, _⟩, _⟩ := h
  obtain rfl := Option.some.inj (gOnm.symm.trans hg')
  obtain rfl := Option.some.inj (gOnmType.symm.trans ht')
  intro i hi
  cases fuel with
  | zero => simp [DataW.trod] at hd
  | succ n =>
    simp only [DataW.trod, Tryz.underlying144, cellsOnm, cellsOn1] at hd
    split at hd
    · rename_i hl
      obtain ⟨xs, hm, hx⟩ := Option.map_eq_some_iff.1 hd
      obtain ⟨b, hb, hf⟩ := Lib.mapM_at hm i i (by simp [hi])
      have hxs : xs.map (·.1) = (List.range 6).map fun i => (DataW.agg [.lit (.string (Hx.outB i)), .lit (.bool (decide (2 ≤ i)))] : DataW Unit) := by
        have := congrArg Prod.fst hx
        simpa [onmData] using this
      have hbd : b.1 = DataW.agg [.lit (.string (Hx.outB i)), .lit (.bool (decide (2 ≤ i)))] := by
        have h2 : (xs.map (·.1))[i]? = some b.1 := by simp [hb]
        rw [hxs] at h2
        simp [List.getElem?_map, List.getElem?_range hi] at h2
        exact h2.symm
      obtain ⟨ys, k, _, hye, _, hyl, hf2⟩ := DataW.trod_struct Tryz.underlying143 hf
      have g0 := hf2 0 _ rfl
      have g1 := hf2 1 _ rfl
      match ys, hyl with
      | [y0, y1], _ =>
        simp [cells9, cells4] at g0 g1
        obtain ⟨s, es, rfl, _⟩ := DataW.trod_string Tryz.underlying9 g0
        obtain ⟨b1, eb, rfl⟩ := DataW.trod_bool Tryz.underlying4 g1
        rw [hye] at hbd
        simp at hbd
        obtain ⟨h1, h2⟩ := hbd
        have c0 := World.var?_cell gOnm hvar (i * 2)
        have c1 := World.var?_cell gOnm hvar (i * 2 + 1)
        have k0 : cs.toList[i * 2]? = some (.string s) := by
          have := congrArg (·[0]?) es
          simpa [List.getElem?_take, List.getElem?_drop] using this
        have k1 : cs.toList[i * 2 + 1]? = some (.bool b1) := by
          have := congrArg (·[0]?) eb
          simpa [List.getElem?_take, List.getElem?_drop] using this
        have hs : s = ⟨(Hx.outB i).toArray⟩ := by
          cases s with
          | mk d => simp at h1; simp [← h1]
        constructor
        · rw [c0, ← hs]; simpa using k0
        · rw [c1, ← h2]; simpa using k1
    · cases hd

/-- What a row's list gives: the tables' cells. -/
theorem run_table {L : List (String × DataW Unit)} {W : World} (h0 : laidMet Tryz.prog L W)
    (e1 : L.filter (fun x => x.1 == "hatch/hatch.byteKinds") = [("hatch/hatch.byteKinds", Lib.tabData .u8 tabNums)])
    (e2 : L.filter (fun x => x.1 == "hatch/hatch.outcomeNames") = [("hatch/hatch.outcomeNames", onmData)])
    (e3 : L.filter (fun x => x.1 == "internal/strconv.uint64pow10") = [("internal/strconv.uint64pow10", Lib.tabData .u64 Lib.pow10Tab)]) : RunE W := by
  refine ⟨?_, ?_, ?_⟩
  · have h00 := h0.filter (fun x => x.1 == "hatch/hatch.byteKinds")
    rw [e1] at h00
    have h1 : Lib.TabIs Tryz.prog W "hatch/hatch.byteKinds" .u8 tabNums := Lib.tabIs_of_head (rest := []) gTab gTabType Tryz.underlying182 Tryz.underlying5 cellsU8 cells182 h00
    intro i hi
    have h2 := h1.cell gTab i (by simpa [tabNums] using hi)
    rw [tabNums_kind i hi] at h2
    exact h2
  · have h00 := h0.filter (fun x => x.1 == "hatch/hatch.outcomeNames")
    rw [e2] at h00
    exact onm_of h00
  · have h00 := h0.filter (fun x => x.1 == "internal/strconv.uint64pow10")
    rw [e3] at h00
    exact Lib.tabIs_of_head (rest := []) gP10 gP10Type Tryz.underlying191 Tryz.underlying178 cellsU64 cellsP10 h00

end Go.Proofs.YtppcnlkhdgmaiaaGreatDoor
