/- What the program's Run answers. What the program's Run answers. What the law does at a step that is a Run. What the cards of laws that run the machine share: the tables of bytes, of outcomes and of powers of ten, as a row lists them. What nextTurns does: the turns that may stand behind what is done, the least first. -/
import Derived.Test.YtppcnlkhdgmaiabGreatDoorCRmF
import Derived.Test.YtppcnlkhdgmaiabGreatDoorCRmG
import Derived.Test.YtppcnlkhdgmaiabGreatDoorCRrB
import Derived.Test.YtppcnlkhdgmaiabGreatDoorCRrC
import Derived.Test.YtppcnlkhdgmaiabGreatDoorCPg
import Derived.Test.YtppcnlkhdgmaiabGreatDoorCPlA
import Derived.Deep.RegionHeld3
import Derived.IntWalk
namespace Go.Proofs.YtppcnlkhdgmaiabGreatDoor
open Go.RowKit

theorem own_block_lt {w : World} {base : Nat} {e : TypeId} {size : Nat} {v : Value} {n : Nat} {xs : List Value} (h : w.ownsRow base e size v n xs) {b : Nat} (hb : w.heap.size ≤ b) : v.ownBlock = none ∨ v.ownBlock ≠ some b := by
  cases ho : v.ownBlock with
  | none => exact Or.inl rfl
  | some k =>
    have := (h.lt k ho).2
    exact Or.inr (fun e => by cases e; omega)

/-- The machine as Run makes it. -/
theorem start_mem (w : World) (J : Nat) (tv cv kv : Value) (l : List Hx.TStp) (clock takes : List Nat) (ht : w.ownsRow 0 146 11 tv l.length (ptsCells l)) (hc : w.ownsRow 0 3 1 cv clock.length (ints (nats clock))) (hk : w.ownsRow 0 3 1 kv takes.length (ints (nats takes)))
    (hok : ∀ y ∈ l, Hx.TOk y) (hll : l.length ≤ 401) (hcl : clock.length ≤ 1000) (hkl : takes.length ≤ 1000) (hkn : ∀ n ∈ takes, n < 1000) (hj : J < 10) :
    Stat ⟨w.heap.size, J, tv, cv, kv, l, clock, takes⟩ (w.alloc (.cells #[.int .i64 (J : Int), tv, cv, kv, .int .i64 0, .int .i64 0, .bool false, .slice none 0 0, .int .i64 0, .int .i64 0, .int .i64 0, .int .i64 0] 91)) ∧
    Mem ⟨w.heap.size, J, tv, cv, kv, l, clock, takes⟩ (w.alloc (.cells #[.int .i64 (J : Int), tv, cv, kv, .int .i64 0, .int .i64 0, .bool false, .slice none 0 0, .int .i64 0, .int .i64 0, .int .i64 0, .int .i64 0] 91)) (w.alloc (.cells #[.int .i64 (J : Int), tv, cv, kv, .int .i64 0, .int .i64 0, .bool false, .slice none 0 0, .int .i64 0, .int .i64 0, .int .i64 0, .int .i64 0] 91)) Hx.startM (.slice none 0 0) (stsCells Hx.startM.sts) := by
  refine ⟨⟨by simp, ht.alloc _, own_block_lt ht (Nat.le_refl _), hc.alloc _, own_block_lt hc (Nat.le_refl _), hk.alloc _, own_block_lt hk (Nat.le_refl _), hok, hll, hcl, hkl, hkn, hj⟩, ⟨blk_new w _ _, World.ownsRow_nil _ _ _ _, World.grownBy.refl _ _⟩⟩

end Go.Proofs.YtppcnlkhdgmaiabGreatDoor
namespace Go.Proofs.YtppcnlkhdgmaiabGreatDoor
open Go.RowKit

set_option maxRecDepth 100000 in
set_option maxHeartbeats 4000000 in
theorem run_any (s t : ByteArray) (w : World) (hs : s.size ≤ maxLen) (ht : t.size ≤ maxLen) (htab : Tab w) (hon : Onm w) (hp : P10 w) :
    Calls Tryz.prog 13 #[.string s, .string t] w fun e w' => e = .returned (.tuple #[.string ⟨(Hx.refRunF s t).1.toArray⟩, .int .i64 (Hx.refRunF s t).2]) ∧ Below w.heap.size w w' := by
  obtain ⟨FIN, hFIN⟩ : ∃ FIN, FIN = Hx.refRunF s t := ⟨_, rfl⟩
  rw [← hFIN]
  have HLK := hide (looked_any s w hs htab)
  have HTAB := hide htab
  have HON := hide hon
  have HP := hide hp
  unfold maxLen at hs ht
  clear htab hon hp
  go_enter Tryz.func13, Tryz.ntmps13
  by_cases hb1 : 400 < s.size
  · have HF : Hid (FIN = ([], 1)) := by show _ = _; rw [hFIN, Hx.refRunF, if_pos (Or.inl hb1)]
    have hbI : (400 : Int) < (s.size : Int) := by omega
    clear hFIN hb1
    go_wp2_with fail
    go_returns
    exact ⟨by rw [unhide HF]; rfl, Below.refl _ _⟩
  · have hbI : ¬ (400 : Int) < (s.size : Int) := by omega
    by_cases hb2 : 800 < t.size
    · have HF : Hid (FIN = ([], 1)) := by show _ = _; rw [hFIN, Hx.refRunF, if_pos (Or.inr hb2)]
      have hbJ : (800 : Int) < (t.size : Int) := by omega
      clear hFIN hb1 hb2
      go_wp2_with fail
      go_returns
      exact ⟨by rw [unhide HF]; rfl, Below.refl _ _⟩
    · have hbJ : ¬ (800 : Int) < (t.size : Int) := by omega
      have ht8 : t.size ≤ 800 := by omega
      have hF2 : FIN = if (Hx.lookF s).1 ≠ 0 then ([], (Hx.lookF s).1) else if Hx.scrOk t = false then ([], 10) else (Hx.refGo (Hx.lookL (Hx.scr1 t).1) (Hx.theadF s).1 (Hx.scr2 t).1 (Hx.tableF s).2 0 0 [] [0, 0, 0, 0], 0) := by rw [hFIN, Hx.refRunF, if_neg (by omega)]
      have HF2 := hide hF2
      clear hFIN hF2 hb1 hb2
      go_wp2_with fail
      refine (unhide HLK).mono ?_
      rintro e w1 ⟨hbe, ⟨hne, rfl⟩ | ⟨he, hs4, hbad, hwr, hlen, v, rfl, hown⟩⟩
      · have HF : Hid (FIN = ([], (Hx.lookF s).1)) := by show _ = _; rw [unhide HF2, if_pos hne]
        have hneb : ((Hx.lookF s).1 != 0) = true := by simpa using hne
        have HBE := hide hbe
        clear hbe hne HF2
        go_wp2_with fail
        go_returns
        exact ⟨by rw [unhide HF]; rfl, (unhide HBE).alloc (unhide HBE).size _⟩
      · have HF3 : Hid (FIN = if Hx.scrOk t = false then ([], 10) else (Hx.refGo (Hx.lookL (Hx.scr1 t).1) (Hx.theadF s).1 (Hx.scr2 t).1 (Hx.tableF s).2 0 0 [] [0, 0, 0, 0], 0)) := by show _ = _; rw [unhide HF2, if_neg (by rw [he]; exact fun h => h rfl)]
        have HRT := hide (Hx.right_of hwr)
        have hJ10 : (Hx.theadF s).1 < 10 := Hx.numF_val s 1 _
        obtain ⟨l, hl⟩ : ∃ l, l = (Hx.tableF s).2 := ⟨_, rfl⟩
        obtain ⟨J, hJ⟩ : ∃ J, J = (Hx.theadF s).1 := ⟨_, rfl⟩
        rw [← hl] at hown hlen HRT HF3
        rw [← hJ] at hJ10 HF3 ⊢
        obtain ⟨a1, c1, rfl⟩ := own_form hown
        have HOWN := hide ((own_mono hown (Nat.zero_le _)).alloc (.cells #[.int .i64 (J : Int), .slice a1 l.length c1] 79))
        have HBE := hide (belA (.cells #[.int .i64 (J : Int), .slice a1 l.length c1] 79) hbe)
        have HTB := hide (bN #[.int .i64 (J : Int), .slice a1 l.length c1] 79 (w := w1) rfl)
        clear hbe hown he hbad hwr hl hJ HF2 HLK
        go_upto_region 4 with fail
        obtain ⟨tb, htb⟩ : ∃ tb, tb = w1.heap.size := ⟨_, rfl⟩
        rw [← htb] at HTB ⊢
        clear htb
        generalize w1.alloc (.cells #[.int .i64 (J : Int), .slice a1 l.length c1] 79) = w2 at *
        go_wp2_with fail
        refine (readscript_any t w2 ht8 ((unhide HTAB).below (unhide HBE))).mono ?_
        rintro e w3 ⟨hb3, ⟨hok, rfl⟩ | ⟨hok, hl1, hl2, v1, v2, rfl, hv1, hv2⟩⟩
        · have HF : Hid (FIN = ([], 10)) := by show _ = _; rw [unhide HF3, if_pos hok]
          have HB3 := hide (blB hb3 (unhide HBE))
          clear hb3 hok HF3
          go_wp2_with fail
          go_returns
          exact ⟨by rw [unhide HF]; rfl, (unhide HB3).alloc (unhide HB3).size _⟩
        · obtain ⟨clock, hck⟩ : ∃ clock, clock = (Hx.scr1 t).1 := ⟨_, rfl⟩
          obtain ⟨takes, htk⟩ : ∃ takes, takes = (Hx.scr2 t).1 := ⟨_, rfl⟩
          have htl : ∀ v ∈ takes, v < 1000 := by rw [htk]; exact fun v hv => Hx.numbersF_lt v hv
          have hcs : clock.sum ≤ 1000000 := by
            have := sum_le_mul (Hx.scr1 t).1 (fun v hv => Hx.numbersF_lt v hv)
            rw [hck]
            omega
          rw [← hck] at hv1 hl1 HF3
          rw [← htk] at hv2 hl2 HF3
          have HF : Hid (FIN = (Hx.tellF l (Hx.machF l J clock takes), 0)) := by
            show _ = _
            rw [unhide HF3, if_neg (by rw [hok]; decide), Hx.machine_is (unhide HRT)]; rfl
          obtain ⟨ca, cc, rfl⟩ := own_form hv1
          obtain ⟨ka, kc, rfl⟩ := own_form hv2
          have HV1 := hide ((own_mono hv1 (Nat.zero_le _)).alloc (.cells #[.slice ca clock.length cc, .slice ka takes.length kc] 84))
          have HV2 := hide ((own_mono hv2 (Nat.zero_le _)).alloc (.cells #[.slice ca clock.length cc, .slice ka takes.length kc] 84))
          have HOW := hide ((own_below (unhide HOWN) hb3).alloc (.cells #[.slice ca clock.length cc, .slice ka takes.length kc] 84))
          have HB4 := hide (belA (.cells #[.slice ca clock.length cc, .slice ka takes.length kc] 84) (blB hb3 (unhide HBE)))
          have HTB4 := hide (bA (.cells #[.slice ca clock.length cc, .slice ka takes.length kc] 84) (bBl hb3 (unhide HTB)))
          have HSB := hide (bN #[.slice ca clock.length cc, .slice ka takes.length kc] 84 (w := w3) rfl)
          have HTL := hide htl
          have HCS := hide hcs
          clear hb3 hok hv1 hv2 hck htk htl hcs HF3 HOWN HBE HTB
          go_upto_region 7 with fail
          obtain ⟨sb, hsb⟩ : ∃ sb, sb = w3.heap.size := ⟨_, rfl⟩
          rw [← hsb] at HSB ⊢
          clear hsb
          generalize w3.alloc (.cells #[.slice ca clock.length cc, .slice ka takes.length kc] 84) = w4 at *
          have t0 : w4.cell? ⟨tb, 0, none⟩ = some (.int .i64 (J : Int)) := blk_cell (unhide HTB4) 0
          have t1 : w4.cell? ⟨tb, 1, none⟩ = some (.slice a1 l.length c1) := blk_cell (unhide HTB4) 1
          have s0 : w4.cell? ⟨sb, 0, none⟩ = some (.slice ca clock.length cc) := blk_cell (unhide HSB) 0
          have s1 : w4.cell? ⟨sb, 1, none⟩ = some (.slice ka takes.length kc) := blk_cell (unhide HSB) 1
          have HSM := hide (start_mem w4 J (.slice a1 l.length c1) (.slice ca clock.length cc) (.slice ka takes.length kc) l clock takes (unhide HOW) (unhide HV1) (unhide HV2) (unhide HRT).ok hlen (by omega) (by omega) (unhide HTL) hJ10)
          have HRUN := hide (mrun_any _ _ _ _ _ (unhide HSM).1 (unhide HSM).2 (start_ok l) (by show 0 + clock.sum ≤ 1000000; have hh : clock.sum ≤ 1000000 := unhide HCS; omega))
          have HLKO := hide (mach_lk (l := l) (J := J) (unhide HTL) (unhide HCS))
          go_upto_region 10 with fail
          go_wp2_with fail
          refine (unhide HRUN).mono ?_
          rintro e w6 ⟨rfl, sv, hm6⟩
          have hg6 := hm6.gr
          have HB6 : Hid (Below w.heap.size w w6) := by
            have h1 := (unhide HB4).alloc (unhide HB4).size (.cells #[.int .i64 (J : Int), .slice a1 l.length c1, .slice ca clock.length cc, .slice ka takes.length kc, .int .i64 0, .int .i64 0, .bool false, .slice none 0 0, .int .i64 0, .int .i64 0, .int .i64 0, .int .i64 0] 91)
            exact h1.grown hg6 h1.size (fun k e => by cases e; exact (unhide HB4).size)
          have HM6 := hide hm6
          clear hm6 hg6
          have HW := hide (mwrite_any _ _ w6 _ sv _ (unhide HSM).1 (unhide HM6) (unhide HLKO).lt (unhide HLKO).k (unhide HLKO).len (unhide HLKO).st ((unhide HON).below (unhide HB6)) ((unhide HP).below (unhide HB6)))
          go_wp2_with fail
          refine (unhide HW).mono ?_
          rintro e w7 ⟨rfl, hb7⟩
          have HB7 := hide (blB hb7 (unhide HB6))
          clear hb7
          go_wp2_with fail
          go_returns
          rw [unhide HF]
          exact ⟨rfl, unhide HB7⟩

end Go.Proofs.YtppcnlkhdgmaiabGreatDoor
namespace Go.Proofs.YtppcnlkhdgmaiabGreatDoor
open Go.RowKit

/-- What Run wants of memory: the two tables, and the library's powers of ten. -/
def RunE (w : World) : Prop := Tab w ∧ Onm w ∧ P10 w
theorem lasts_run : Lasts RunE := fun _ _ h hb => ⟨h.1.below hb, h.2.1.below hb, h.2.2.below hb⟩

set_option maxRecDepth 100000 in
set_option maxHeartbeats 4000000 in
theorem plays_run (n : Int) (s t : ByteArray) (w : World) (hs : s.size ≤ maxLen) (ht : t.size ≤ maxLen) (hE : RunE w) :
    Calls Tryz.prog 5 #[.agg #[.int .i64 4, .int .i64 n, .string s, .string t]] w fun e w' => e = .returned (.bool true) ∧ Below w.heap.size w w' := by
  have HE := hide (lasts_run.alloc hE (.cells #[.int .i64 4, .int .i64 n, .string s, .string t] 26))
  have HR := hide (run_any s t _ hs ht (unhide HE).1 (unhide HE).2.1 (unhide HE).2.2)
  have HS := hide hs
  have HT := hide ht
  clear hE hs ht
  go_enter Tryz.func5, Tryz.ntmps5
  go_wp2_with fail
  refine (unhide HR).mono ?_
  rintro e w1 ⟨rfl, hb1⟩
  have c2 : w1.cell? ⟨w.heap.size, 2, none⟩ = some (.string s) := by
    rw [hb1.cell (p := ⟨w.heap.size, 2, none⟩) (by simp)]
    exact blk_cell (blk_new w #[.int .i64 4, .int .i64 n, .string s, .string t] 26) 2
  have c3 : w1.cell? ⟨w.heap.size, 3, none⟩ = some (.string t) := by
    rw [hb1.cell (p := ⟨w.heap.size, 3, none⟩) (by simp)]
    exact blk_cell (blk_new w #[.int .i64 4, .int .i64 n, .string s, .string t] 26) 3
  have HB1 := hide (((Below.refl w.heap.size w).alloc (Nat.le_refl _) _).trans (hb1.mono (by simp)))
  clear hb1
  go_wp2_with fail
  refine (refrun_all s t _ (unhide HS) (unhide HT)).mono ?_
  rintro e w2 ⟨rfl, hb2⟩
  have HB2 := hide ((unhide HB1).trans (hb2.mono (unhide HB1).size))
  clear hb2
  go_wp2_with fail
  refine (num_any _ _).mono ?_
  rintro e w3 ⟨rfl, rfl⟩
  have e2 : ((Hx.refRunF s t).2 == (Hx.refRunF s t).2) = true := by simp
  go_wp2_with fail
  go_returns
  exact ⟨rfl, unhide HB2⟩

theorem plays_runs : Plays RunE 4 4 := fun k n s t w h1 h2 hs ht hE => by
  obtain rfl : k = 4 := by omega
  exact plays_run n s t w hs ht hE

end Go.Proofs.YtppcnlkhdgmaiabGreatDoor
namespace Go.Proofs.YtppcnlkhdgmaiabGreatDoor
open Go.ChangeShapes Go.WideShapes Go.ChangeAt Go.RowKit Go.Deep

theorem gOnm : Tryz.prog.globalNamed "hatch/hatch.outcomeNames" = some 0 := by kernel_rfl
theorem gOnmType : (Tryz.prog.globals[0]?).map (·.type) = some 144 := by kernel_rfl
theorem cellsOnm : Tryz.prog.cellsOf 144 = 12 := by kernel_rfl
theorem cellsOn1 : Tryz.prog.cellsOf 143 = 2 := by kernel_rfl
theorem cells4 : Tryz.prog.cellsOf 4 = 1 := by kernel_rfl
theorem gP10 : Tryz.prog.globalNamed "internal/strconv.uint64pow10" = some 2 := by kernel_rfl
theorem gP10Type : (Tryz.prog.globals[2]?).map (·.type) = some 191 := by kernel_rfl
theorem cellsP10 : Tryz.prog.cellsOf 191 = 20 := by kernel_rfl
theorem cellsU64 : Tryz.prog.cellsOf 178 = 1 := by kernel_rfl

/-- The table of outcomes, as the row lists it. -/
def onmData : DataW Unit := .agg ((List.range 6).map fun i => .agg [.lit (.string (Hx.outB i)), .lit (.bool (decide (2 ≤ i)))])

set_option maxRecDepth 100000 in
theorem onm_of {W : World} (h : laidMet Tryz.prog [("hatch/hatch.outcomeNames", onmData)] W) : Onm W := by
  obtain ⟨ps, ⟨g', t', cs, fuel, p, q, hg', ht', hvar, hd, _, _⟩, _⟩ := h
  obtain rfl := Option.some.inj (gOnm.symm.trans hg')
  obtain rfl := Option.some.inj (gOnmType.symm.trans ht')
  intro i hi
  cases fuel with
  | zero => simp [DataW.trod] at hd
  | succ n =>
    simp only [DataW.trod, Tryz.underlying144, cellsOnm, cellsOn1] at hd
    split at hd
    · rename_i hl
      obtain ⟨xs, hm, hx⟩ := Option.map_eq_some_iff.1 hd
      obtain ⟨b, hb, hf⟩ := Lib.mapM_at hm i i (by simp [hi])
      have hxs : xs.map (·.1) = (List.range 6).map fun i => (DataW.agg [.lit (.string (Hx.outB i)), .lit (.bool (decide (2 ≤ i)))] : DataW Unit) := by
        have := congrArg Prod.fst hx
        simpa [onmData] using this
      have hbd : b.1 = DataW.agg [.lit (.string (Hx.outB i)), .lit (.bool (decide (2 ≤ i)))] := by
        have h2 : (xs.map (·.1))[i]? = some b.1 := by simp [hb]
        rw [hxs] at h2
        simp [List.getElem?_map, List.getElem?_range hi] at h2
        exact h2.symm
      obtain ⟨ys, k, _, hye, _, hyl, hf2⟩ := DataW.trod_struct Tryz.underlying143 hf
      have g0 := hf2 0 _ rfl
      have g1 := hf2 1 _ rfl
      match ys, hyl with
      | [y0, y1], _ =>
        simp [cells9, cells4] at g0 g1
        obtain ⟨s, es, rfl, _⟩ := DataW.trod_string Tryz.underlying9 g0
        obtain ⟨b1, eb, rfl⟩ := DataW.trod_bool Tryz.underlying4 g1
        rw [hye] at hbd
        simp at hbd
        obtain ⟨h1, h2⟩ := hbd
        have c0 := World.var?_cell gOnm hvar (i * 2)
        have c1 := World.var?_cell gOnm hvar (i * 2 + 1)
        have k0 : cs.toList[i * 2]? = some (.string s) := by
          have := congrArg (·[0]?) es
          simpa [List.getElem?_take, List.getElem?_drop] using this
        have k1 : cs.toList[i * 2 + 1]? = some (.bool b1) := by
          have := congrArg (·[0]?) eb
          simpa [List.getElem?_take, List.getElem?_drop] using this
        have hs : s = ⟨(Hx.outB i).toArray⟩ := by
          cases s with
          | mk d => simp at h1; simp [← h1]
        constructor
        · rw [c0, ← hs]; simpa using k0
        · rw [c1, ← h2]; simpa using k1
    · cases hd

/-- What a row's list gives: the tables' cells. -/
theorem run_table {L : List (String × DataW Unit)} {W : World} (h0 : laidMet Tryz.prog L W)
    (e1 : L.filter (fun x => x.1 == "hatch/hatch.byteKinds") = [("hatch/hatch.byteKinds", Lib.tabData .u8 tabNums)])
    (e2 : L.filter (fun x => x.1 == "hatch/hatch.outcomeNames") = [("hatch/hatch.outcomeNames", onmData)])
    (e3 : L.filter (fun x => x.1 == "internal/strconv.uint64pow10") = [("internal/strconv.uint64pow10", Lib.tabData .u64 Lib.pow10Tab)]) : RunE W := by
  refine ⟨?_, ?_, ?_⟩
  · have h00 := h0.filter (fun x => x.1 == "hatch/hatch.byteKinds")
    rw [e1] at h00
    have h1 : Lib.TabIs Tryz.prog W "hatch/hatch.byteKinds" .u8 tabNums := Lib.tabIs_of_head (rest := []) gTab gTabType Tryz.underlying182 Tryz.underlying5 cellsU8 cells182 h00
    intro i hi
    have h2 := h1.cell gTab i (by simpa [tabNums] using hi)
    rw [tabNums_kind i hi] at h2
    exact h2
  · have h00 := h0.filter (fun x => x.1 == "hatch/hatch.outcomeNames")
    rw [e2] at h00
    exact onm_of h00
  · have h00 := h0.filter (fun x => x.1 == "internal/strconv.uint64pow10")
    rw [e3] at h00
    exact Lib.tabIs_of_head (rest := []) gP10 gP10Type Tryz.underlying191 Tryz.underlying178 cellsU64 cellsP10 h00

end Go.Proofs.YtppcnlkhdgmaiabGreatDoor
namespace Go.Proofs.YtppcnlkhdgmaiabGreatDoor
open Go.RowKit

def trnsCells (l : List Hx.Trn) : List Value := l.flatMap trnCells
theorem trnsCells_snoc (l : List Hx.Trn) (t : Hx.Trn) : trnsCells (l ++ [t]) = trnsCells l ++ trnCells t := by simp [trnsCells]
theorem trnsCells_at (l : List Hx.Trn) (j : Nat) (t : Hx.Trn) (h : l[j]? = some t) (i : Nat) (hi : i < 8) : (trnsCells l)[j * 8 + i]? = (trnCells t)[i]? := by
  induction l generalizing j with
  | nil => simp at h
  | cons z r ih =>
    have e : trnsCells (z :: r) = trnCells z ++ trnsCells r := rfl
    rw [e]
    have hl : (trnCells z).length = 8 := rfl
    cases j with
    | zero =>
      simp at h
      subst h
      rw [Nat.zero_mul, Nat.zero_add, List.getElem?_append_left (by omega)]
    | succ j =>
      rw [List.getElem?_append_right (by omega), hl, show (j + 1) * 8 + i - 8 = j * 8 + i by omega]
      exact ih j (by simpa using h)
theorem trnCells_one (t : Hx.Trn) : ∀ u ∈ trnCells t, u.oneCell' = true := by
  intro u hu
  simp [trnCells] at hu
  rcases hu with rfl | rfl | rfl | rfl | rfl | rfl | rfl | rfl <;> rfl
/-- A slice of turns, as it lies. -/
abbrev Trns (w : World) (base : Nat) (v : Value) (l : List Hx.Trn) : Prop := w.ownsRow base 59 8 v l.length (trnsCells l)
theorem Tryz.info59 : (Tryz.prog.info? 59).map (fun i => (i.zero, i.size, i.bytes)) = some (some (.agg #[.int .i64 0, .int .i64 0, .bool false, .int .i64 0, .int .i64 0, .int .i64 0, .int .i64 0, .bool false]), 8, 64) := by kernel_rfl
/-- A slice of numbers, as it lies. -/
def natCells (n : Nat) (f : Nat → Nat) : List Value := (List.range n).map fun p => .int .i64 (f p : Int)
theorem natCells_at {n : Nat} {f : Nat → Nat} {p : Nat} (h : p < n) : (natCells n f)[p]? = some (.int .i64 (f p : Int)) := by simp [natCells, h]

theorem nextUp {K : Nat} {ps : List (List Hx.Stp)} {r : Int} {nx : Nat → Nat} (k : Nat) : (List.range (k + 1)).filterMap (Hx.nextAt K ps r nx) = (List.range k).filterMap (Hx.nextAt K ps r nx) ++ (Hx.nextAt K ps r nx k).toList := by
  rw [List.range_succ, List.filterMap_append]
  cases h : Hx.nextAt K ps r nx k <;> simp [h]
theorem nextUp_len {K : Nat} {ps : List (List Hx.Stp)} {r : Int} {nx : Nat → Nat} (k : Nat) : ((List.range k).filterMap (Hx.nextAt K ps r nx)).length ≤ k := by
  have := List.length_filterMap_le (Hx.nextAt K ps r nx) (List.range k)
  simpa using this

set_option maxRecDepth 100000 in
set_option maxHeartbeats 4000000 in
theorem next_any (J K D : Nat) (v dv : Value) (base : Nat) (ps : List (List Hx.Stp)) (r : Int) (nx : Nat → Nat) (w : World) (hps : Plts w base v ps) (hn : 0 < ps.length) (hl : ps.length ≤ 121) (hf : Hx.Fine ps)
    (hd : w.ownsRow 0 3 1 dv ps.length (natCells ps.length nx)) (hle : ∀ p, p < ps.length → nx p ≤ Hx.lenP ps p) (hr1 : -1000 ≤ r) (hr2 : r ≤ 1000) :
    Calls Tryz.prog 69 #[.agg #[.int .i64 (J : Int), .int .i64 (K : Int), .int .i64 (D : Int), v], dv, .int .i64 r] w fun e w' => ∃ nv, e = .returned nv ∧ Trns w' w.heap.size nv (Hx.nxtF K ps r nx) ∧ Below w.heap.size w w' := by
  have HPS := hide hps
  have HF := hide hf
  have HLE := hide hle
  have HD := hide hd
  obtain ⟨g, cap, rfl, hg⟩ : ∃ g cap, v = .slice (some ⟨g, 0, none⟩) ps.length cap ∧ g < w.heap.size := by
    obtain ⟨vs, hvs, hpp⟩ := hps
    obtain ⟨g, cap, e, _, hg⟩ := own_pos hvs hn
    exact ⟨g, cap, e, hg⟩
  obtain ⟨gd, capd, rfl, _, hgd⟩ := own_pos hd hn
  obtain ⟨i0, hi, hz0, hz1, hz2⟩ := info_parts Tryz.info59
  have HI := hide hi
  have HZ0 := hide hz0
  have HZ1 := hide hz1
  have HZ2 := hide hz2
  clear hps hf hle hd hi hz0 hz1 hz2
  go_enter Tryz.func69, Tryz.ntmps69
  go_wp2_with fail
  go_loopg [7, 14] ps.length (fun gk out i wr => ∃ (k : Nat) (l : List Hx.Trn), k ≤ ps.length ∧ gk = ps.length - k ∧ i = .int .i64 (k : Int) ∧ l = (List.range k).filterMap (Hx.nextAt K ps r nx) ∧ Trns wr w.heap.size out l ∧ Below w.heap.size w wr ∧ wr.heap[w.heap.size]? = some (.cells #[.int .i64 (J : Int), .int .i64 (K : Int), .int .i64 (D : Int), .slice (some ⟨g, 0, none⟩) ps.length cap] 44 (0, 0)))
  case atStart => exact ⟨0, [], Nat.zero_le _, rfl, rfl, rfl, World.ownsRow_nil _ _ _ _, belA _ (Below.refl _ _), blk_new _ _ _⟩
  case round =>
    obtain ⟨k, l, hk, rfl, rfl, hls, hrow, hbe, hbox⟩ := hrel
    obtain ⟨ao, capo, rfl⟩ := own_form hrow
    have hll : l.length ≤ k := by rw [hls]; exact nextUp_len k
    have HLS := hide hls
    have HROW := hide hrow
    have HBE := hide hbe
    have HBOX := hide hbox
    clear hls hrow hbe hbox
    by_cases hlt : k < ps.length
    · obtain ⟨p, hp⟩ : ∃ p, ps[k]? = some p := ⟨ps[k], List.getElem?_eq_getElem hlt⟩
      obtain ⟨x0, r0, ep, hx0⟩ := unhide HF k p hp
      have hp0 : 0 < p.length := by rw [ep]; simp
      obtain ⟨g', cap', g2, cap2, e', _, _, hg2, _, hc, hq121, _⟩ := (unhide HPS).plate hp hp0
      cases e'
      have hnk : nx k ≤ p.length := by have := unhide HLE k hlt; rwa [Hx.lenP_eq hp] at this
      have cP : wr.cell? ⟨g, k, none⟩ = some (.slice (some ⟨g2, 0, none⟩) p.length cap2) := by
        rw [(unhide HBE).cell (p := ⟨g, k, none⟩) hg]; exact hc
      have cD' : wr.cell? ⟨gd, k, none⟩ = some (.int .i64 (nx k : Int)) := by
        rw [(unhide HBE).cell (p := ⟨gd, k, none⟩) hgd, (unhide HD).cellAt k (by omega)]; exact natCells_at hlt
      have HP := hide hp
      clear hp hc ep hx0
      by_cases hfull : nx k = p.length
      · have hnone : Hid (Hx.nextAt K ps r nx k = none) := by
          show _ = _
          have : Hx.turnAt ps k (nx k) = none := by simp [Hx.turnAt, unhide HP, List.getElem?_eq_none (show p.length ≤ nx k by omega)]
          simp [Hx.nextAt, this]
        have hfe : ((nx k : Int) == (p.length : Int)) = true := by simp; omega
        go_wp2_with fail
        go_roundg (ps.length - (k + 1))
        case measure => omega
        case rel => exact ⟨k + 1, l, by omega, rfl, by go_num, by rw [nextUp, unhide hnone, unhide HLS]; simp, unhide HROW, unhide HBE, unhide HBOX⟩
      · have hfe : ((nx k : Int) == (p.length : Int)) = false := by simp; omega
        obtain ⟨t, ht⟩ : ∃ t, Hx.turnAt ps k (nx k) = some t := ⟨⟨p[nx k], k, nx k, Hx.begB p (nx k)⟩, by simp [Hx.turnAt, unhide HP, List.getElem?_eq_getElem (show nx k < p.length by omega)]⟩
        have HTT := hide ht
        have j0 : wr.cell? ⟨w.heap.size, 0, none⟩ = some (.int .i64 (J : Int)) := blk_cell (unhide HBOX) 0
        have j1 : wr.cell? ⟨w.heap.size, 1, none⟩ = some (.int .i64 (K : Int)) := blk_cell (unhide HBOX) 1
        have j2 : wr.cell? ⟨w.heap.size, 2, none⟩ = some (.int .i64 (D : Int)) := blk_cell (unhide HBOX) 2
        have j3 : wr.cell? ⟨w.heap.size, 3, none⟩ = some (.slice (some ⟨g, 0, none⟩) ps.length cap) := blk_cell (unhide HBOX) 3
        have hk0 : (0 : Int) ≤ (k : Int) := by omega
        have hkI : (k : Int) < (ps.length : Int) := by omega
        have HPSr : Hid (Plts wr base (.slice (some ⟨g, 0, none⟩) ps.length cap) ps) := (unhide HPS).below (unhide HBE)
        clear ht
        go_upto_region 6 with fail
        go_cut [10] (fun s10 wc => ∃ tb, s10 = .pointer (some ⟨tb, 0, none⟩) ∧ wc.heap[tb]? = some (.cells #[.int .i64 (t.x.lo : Int), .int .i64 (t.x.hi : Int), .bool t.x.rest, .int .i64 (t.x.mn : Int), .int .i64 (t.x.mx : Int), .int .i64 (t.pl : Int), .int .i64 (t.no : Int), .bool t.beg] 59 (0, 0)) ∧ Below wr.heap.size wr wc)
        case first =>
          go_region_held3 (fun w' => w'.cell? ⟨w.heap.size, 0, none⟩ = some (.int .i64 (J : Int)) ∧ w'.cell? ⟨w.heap.size, 1, none⟩ = some (.int .i64 (K : Int)) ∧ w'.cell? ⟨w.heap.size, 2, none⟩ = some (.int .i64 (D : Int)) ∧ w'.cell? ⟨w.heap.size, 3, none⟩ = some (.slice (some ⟨g, 0, none⟩) ps.length cap) ∧ w'.cell? ⟨gd, k, none⟩ = some (.int .i64 (nx k : Int))) (refine ⟨?_, ?_, ?_, ?_, ?_⟩ <;> (repeat (first | assumption | apply cD | apply cA)))
            (first | (go_at_call 44; refine (turn_exact J K D _ base ps _ k (nx k) t ?_ (unhide HTT)).mono ?_; (refine (unhide HPSr).below ?_; (repeat (first | exact Below.refl _ _ | apply belD | apply belA))); rintro e w2 ⟨rfl, rfl⟩))
          all_goals
            go_wp2_with fail
            go_meet
            case rel =>
              refine ⟨_, rfl, ?_, ?_⟩
              · repeat (first | (refine bN _ _ ?_; simp; done) | apply bD | apply bA)
              · repeat (first | exact Below.refl _ _ | apply belD | apply belA)
        case rest =>
          obtain ⟨tb, rfl, htb, hb2⟩ := hcut
          have HTB := hide htb
          have HBE2 := hide ((unhide HBE).trans (hb2.mono (unhide HBE).size))
          have HROW2 := hide (own_below (unhide HROW) hb2)
          have HBOX2 := hide ((hb2.block _ (lt_of_block (unhide HBOX))).trans (unhide HBOX))
          clear htb hb2 cP cD' j0 j1 j2 j3 HBOX HROW HPSr
          have t0 : wc.cell? ⟨tb, 0, none⟩ = some (.int .i64 (t.x.lo : Int)) := blk_cell (unhide HTB) 0
          have t1 : wc.cell? ⟨tb, 1, none⟩ = some (.int .i64 (t.x.hi : Int)) := blk_cell (unhide HTB) 1
          have t2 : wc.cell? ⟨tb, 2, none⟩ = some (.bool t.x.rest) := blk_cell (unhide HTB) 2
          have t3 : wc.cell? ⟨tb, 3, none⟩ = some (.int .i64 (t.x.mn : Int)) := blk_cell (unhide HTB) 3
          have t4 : wc.cell? ⟨tb, 4, none⟩ = some (.int .i64 (t.x.mx : Int)) := blk_cell (unhide HTB) 4
          have t5 : wc.cell? ⟨tb, 5, none⟩ = some (.int .i64 (t.pl : Int)) := blk_cell (unhide HTB) 5
          have t6 : wc.cell? ⟨tb, 6, none⟩ = some (.int .i64 (t.no : Int)) := blk_cell (unhide HTB) 6
          have t7 : wc.cell? ⟨tb, 7, none⟩ = some (.bool t.beg) := blk_cell (unhide HTB) 7
          have j1 : wc.cell? ⟨w.heap.size, 1, none⟩ = some (.int .i64 (K : Int)) := blk_cell (unhide HBOX2) 1
          obtain ⟨mr, hmr⟩ : ∃ mr, mr = Hx.moreR t := ⟨_, rfl⟩
          have hmr1 : -1 ≤ mr ∧ mr ≤ 1 := by rw [hmr]; unfold Hx.moreR; constructor <;> (split <;> split <;> omega)
          have HMR := hide hmr
          clear hmr
          go_upto_region 7 with fail
          go_cut [39] (fun s39 wd => s39 = .bool (decide (r + mr ≤ (K : Int))) ∧ Below wc.heap.size wc wd)
          case first =>
            go_region_held3 (fun w' => w'.cell? ⟨w.heap.size, 1, none⟩ = some (.int .i64 (K : Int)) ∧ w'.cell? ⟨tb, 0, none⟩ = some (.int .i64 (t.x.lo : Int)) ∧ w'.cell? ⟨tb, 1, none⟩ = some (.int .i64 (t.x.hi : Int)) ∧ w'.cell? ⟨tb, 2, none⟩ = some (.bool t.x.rest) ∧ w'.cell? ⟨tb, 3, none⟩ = some (.int .i64 (t.x.mn : Int)) ∧ w'.cell? ⟨tb, 4, none⟩ = some (.int .i64 (t.x.mx : Int)) ∧ w'.cell? ⟨tb, 5, none⟩ = some (.int .i64 (t.pl : Int)) ∧ w'.cell? ⟨tb, 6, none⟩ = some (.int .i64 (t.no : Int)) ∧ w'.cell? ⟨tb, 7, none⟩ = some (.bool t.beg)) (refine ⟨?_, ?_, ?_, ?_, ?_, ?_, ?_, ?_, ?_⟩ <;> (repeat (first | assumption | apply cD | apply cA)))
              (first | (go_at_call 71; refine (more_any t _).mono ?_; rw [← unhide HMR]; rintro e w2 ⟨rfl, rfl⟩))
            all_goals
              go_wp2_with fail
              go_meet
              case rel =>
                refine ⟨by rw [IntWalk.i64_in _ ⟨by omega, by omega⟩], ?_⟩
                repeat (first | exact Below.refl _ _ | apply belD | apply belA)
          case rest =>
            obtain ⟨rfl, hb3⟩ := hcut
            have HTB3 := hide ((hb3.block _ (lt_of_block (unhide HTB))).trans (unhide HTB))
            have HBE3 := hide ((unhide HBE2).trans (hb3.mono (unhide HBE2).size))
            have HROW3 := hide (own_below (unhide HROW2) hb3)
            have HBOX3 := hide ((hb3.block _ (lt_of_block (unhide HBOX2))).trans (unhide HBOX2))
            clear hb3 t0 t1 t2 t3 t4 t5 t6 t7 j1 HTB HBE2 HROW2 HBOX2
            cases hd : decide (r + mr ≤ (K : Int))
            · have hnone : Hid (Hx.nextAt K ps r nx k = none) := by
                show _ = _
                unfold Hx.nextAt
                rw [unhide HTT]
                simp only
                rw [if_neg (by rw [← unhide HMR]; simpa using hd)]
              clear hd
              go_wp2_with fail
              go_roundg (ps.length - (k + 1))
              case measure => omega
              case rel => exact ⟨k + 1, l, by omega, rfl, by go_num, by rw [nextUp, unhide hnone, unhide HLS]; simp, unhide HROW3, unhide HBE3, unhide HBOX3⟩
            · have hsome : Hid (Hx.nextAt K ps r nx k = some t) := by
                show _ = _
                unfold Hx.nextAt
                rw [unhide HTT]
                simp only
                rw [if_pos (by rw [← unhide HMR]; simpa using hd)]
              have t0 : wc.cell? ⟨tb, 0, none⟩ = some (.int .i64 (t.x.lo : Int)) := blk_cell (unhide HTB3) 0
              have t1 : wc.cell? ⟨tb, 1, none⟩ = some (.int .i64 (t.x.hi : Int)) := blk_cell (unhide HTB3) 1
              have t2 : wc.cell? ⟨tb, 2, none⟩ = some (.bool t.x.rest) := blk_cell (unhide HTB3) 2
              have t3 : wc.cell? ⟨tb, 3, none⟩ = some (.int .i64 (t.x.mn : Int)) := blk_cell (unhide HTB3) 3
              have t4 : wc.cell? ⟨tb, 4, none⟩ = some (.int .i64 (t.x.mx : Int)) := blk_cell (unhide HTB3) 4
              have t5 : wc.cell? ⟨tb, 5, none⟩ = some (.int .i64 (t.pl : Int)) := blk_cell (unhide HTB3) 5
              have t6 : wc.cell? ⟨tb, 6, none⟩ = some (.int .i64 (t.no : Int)) := blk_cell (unhide HTB3) 6
              have t7 : wc.cell? ⟨tb, 7, none⟩ = some (.bool t.beg) := blk_cell (unhide HTB3) 7
              clear hd
              go_wp2_with (at_builtin; refine wpList_append_own _ rfl _ _ 63 rfl w.heap.size 59 i0 (.agg #[.int .i64 0, .int .i64 0, .bool false, .int .i64 0, .int .i64 0, .int .i64 0, .int .i64 0, .bool false]) 8 64 Tryz.underlying63 (unhide HI) (unhide HZ0) (unhide HZ1) (unhide HZ2) rfl (by decide) _ _ _ rfl ((unhide HROW3).alloc _) ⟨wc.heap.size, 0, none⟩ 1 1 (trnCells t) rfl rfl ?d1 ?d2 ?d3 ?d4 ?d5 ?_)
              case d1 => exact news_new wc (trnCells t) 59
              case d2 => exact trnCells_one _
              case d3 => unfold maxLen; omega
              case d4 => omega
              case d5 => have := (unhide HBE3).size; simp; omega
              · intro v' w3 hown' hgrow _
                have HOWN3 := hide hown'
                have HGROW := hide hgrow
                clear hown' hgrow
                go_wp2_with fail
                go_roundg (ps.length - (k + 1))
                case measure => omega
                case rel =>
                  refine ⟨k + 1, l ++ [t], by omega, rfl, by go_num, by rw [nextUp, unhide hsome, unhide HLS]; simp, ?_, (belA _ (unhide HBE3)).grown (unhide HGROW) (by have := (unhide HBE3).size; simp; omega) (fun k e => ((unhide HROW3).lt k e).1), ?_⟩
                  · show World.ownsRow _ _ _ _ _ _ _
                    rw [trnsCells_snoc, List.length_append]; exact unhide HOWN3
                  · exact blk_kept (bA _ (unhide HBOX3)) (unhide HGROW) (fun e => own_not_box (unhide HROW3) (unhide HBOX3) (by decide) e.symm)
    · have hke : k = ps.length := by omega
      have hfin : Hid (Hx.nxtF K ps r nx = l) := by show _ = _; rw [Hx.nxtF, unhide HLS, hke]
      clear hke
      have hkI : decide ((k : Int) < (ps.length : Int)) = false := by simp; omega
      go_wp2_with fail
      go_returns
      exact ⟨_, rfl, by rw [unhide hfin]; exact unhide HROW, unhide HBE⟩

end Go.Proofs.YtppcnlkhdgmaiabGreatDoor
