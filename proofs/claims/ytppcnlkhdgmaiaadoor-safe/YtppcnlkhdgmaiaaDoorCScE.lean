/- What the program's Run answers. What the program's Run answers. What the law does at a step that is a Run. What the cards of laws that run the machine share: the tables of bytes, of outcomes and of powers of ten, as a row lists them. The plain mathematics of how a table is scanned: where the program's reader finds a table, the scan finds the same. No program is named here. What a Scan's small calls do: is, must, name, number; over a Scan that lies in one block of memory. What a Scan's name and number do. What a Scan's number does. What entries reads of a text: the entries of a table. -/
import Derived.Test.YtppcnlkhdgmaiaaDoorCRmF
import Derived.Test.YtppcnlkhdgmaiaaDoorCRmG
import Derived.Test.YtppcnlkhdgmaiaaDoorCRrB
import Derived.Test.YtppcnlkhdgmaiaaDoorCRrC
import Derived.Test.YtppcnlkhdgmaiaaDoorCPg
import Derived.Test.YtppcnlkhdgmaiaaDoorCRtB
import Derived.Test.YtppcnlkhdgmaiaaDoorCRdD
import Derived.Deep.LoopGhost
import Derived.IntWalk
import Derived.Handy
import Derived.Test.YtppcnlkhdgmaiaaDoorCPlU
namespace Go.Proofs.YtppcnlkhdgmaiaaDoor
open Go.RowKit

theorem own_block_lt {w : World} {base : Nat} {e : TypeId} {size : Nat} {v : Value} {n : Nat} {xs : List Value} (h : w.ownsRow base e size v n xs) {b : Nat} (hb : w.heap.size ≤ b) : v.ownBlock = none ∨ v.ownBlock ≠ some b := by
  cases ho : v.ownBlock with
  | none => exact Or.inl rfl
  | some k =>
    have := (h.lt k ho).2
    exact Or.inr (fun e => by cases e; omega)

/-- The machine as Run makes it. -/
theorem start_mem (w : World) (J : Nat) (tv cv kv : Value) (l : List Hx.TStp) (clock takes : List Nat) (ht : w.ownsRow 0 153 11 tv l.length (ptsCells l)) (hc : w.ownsRow 0 3 1 cv clock.length (ints (nats clock))) (hk : w.ownsRow 0 3 1 kv takes.length (ints (nats takes)))
    (hok : ∀ y ∈ l, Hx.TOk y) (hll : l.length ≤ 401) (hcl : clock.length ≤ 1000) (hkl : takes.length ≤ 1000) (hkn : ∀ n ∈ takes, n < 1000) (hj : J < 10) :
    Stat ⟨w.heap.size, J, tv, cv, kv, l, clock, takes⟩ (w.alloc (.cells #[.int .i64 (J : Int), tv, cv, kv, .int .i64 0, .int .i64 0, .bool false, .slice none 0 0, .int .i64 0, .int .i64 0, .int .i64 0, .int .i64 0] 115)) ∧
    Mem ⟨w.heap.size, J, tv, cv, kv, l, clock, takes⟩ (w.alloc (.cells #[.int .i64 (J : Int), tv, cv, kv, .int .i64 0, .int .i64 0, .bool false, .slice none 0 0, .int .i64 0, .int .i64 0, .int .i64 0, .int .i64 0] 115)) (w.alloc (.cells #[.int .i64 (J : Int), tv, cv, kv, .int .i64 0, .int .i64 0, .bool false, .slice none 0 0, .int .i64 0, .int .i64 0, .int .i64 0, .int .i64 0] 115)) Hx.startM (.slice none 0 0) (stsCells Hx.startM.sts) := by
  refine ⟨⟨by simp, ht.alloc _, own_block_lt ht (Nat.le_refl _), hc.alloc _, own_block_lt hc (Nat.le_refl _), hk.alloc _, own_block_lt hk (Nat.le_refl _), hok, hll, hcl, hkl, hkn, hj⟩, ⟨blk_new w _ _, World.ownsRow_nil _ _ _ _, World.grownBy.refl _ _⟩⟩

end Go.Proofs.YtppcnlkhdgmaiaaDoor
namespace Go.Proofs.YtppcnlkhdgmaiaaDoor
open Go.RowKit

set_option maxRecDepth 100000 in
set_option maxHeartbeats 4000000 in
theorem run_any (s t : ByteArray) (w : World) (hs : s.size ≤ maxLen) (ht : t.size ≤ maxLen) (htab : Tab w) (hon : Onm w) (hp : P10 w) :
    Calls Tryd.prog 27 #[.string s, .string t] w fun e w' => e = .returned (.tuple #[.string ⟨(Hx.refRunF s t).1.toArray⟩, .int .i64 (Hx.refRunF s t).2]) ∧ Below w.heap.size w w' := by
  obtain ⟨FIN, hFIN⟩ : ∃ FIN, FIN = Hx.refRunF s t := ⟨_, rfl⟩
  rw [← hFIN]
  have HLK := hide (looked_any s w hs htab)
  have HTAB := hide htab
  have HON := hide hon
  have HP := hide hp
  unfold maxLen at hs ht
  clear htab hon hp
  go_enter Tryd.func27, Tryd.ntmps27
  by_cases hb1 : 400 < s.size
  · have HF : Hid (FIN = ([], 1)) := by show _ = _; rw [hFIN, Hx.refRunF, if_pos (Or.inl hb1)]
    have hbI : (400 : Int) < (s.size : Int) := by omega
    clear hFIN hb1
    go_wp2_with fail
    go_returns
    exact ⟨by rw [unhide HF]; rfl, Below.refl _ _⟩
  · have hbI : ¬ (400 : Int) < (s.size : Int) := by omega
    by_cases hb2 : 800 < t.size
    · have HF : Hid (FIN = ([], 1)) := by show _ = _; rw [hFIN, Hx.refRunF, if_pos (Or.inr hb2)]
      have hbJ : (800 : Int) < (t.size : Int) := by omega
      clear hFIN hb1 hb2
      go_wp2_with fail
      go_returns
      exact ⟨by rw [unhide HF]; rfl, Below.refl _ _⟩
    · have hbJ : ¬ (800 : Int) < (t.size : Int) := by omega
      have ht8 : t.size ≤ 800 := by omega
      have hF2 : FIN = if (Hx.lookF s).1 ≠ 0 then ([], (Hx.lookF s).1) else if Hx.scrOk t = false then ([], 10) else (Hx.refGo (Hx.lookL (Hx.scr1 t).1) (Hx.theadF s).1 (Hx.scr2 t).1 (Hx.tableF s).2 0 0 [] [0, 0, 0, 0], 0) := by rw [hFIN, Hx.refRunF, if_neg (by omega)]
      have HF2 := hide hF2
      clear hFIN hF2 hb1 hb2
      go_wp2_with fail
      refine (unhide HLK).mono ?_
      rintro e w1 ⟨hbe, ⟨hne, rfl⟩ | ⟨he, hs4, hbad, hwr, hlen, v, rfl, hown⟩⟩
      · have HF : Hid (FIN = ([], (Hx.lookF s).1)) := by show _ = _; rw [unhide HF2, if_pos hne]
        have hneb : ((Hx.lookF s).1 != 0) = true := by simpa using hne
        have HBE := hide hbe
        clear hbe hne HF2
        go_wp2_with fail
        go_returns
        exact ⟨by rw [unhide HF]; rfl, (unhide HBE).alloc (unhide HBE).size _⟩
      · have HF3 : Hid (FIN = if Hx.scrOk t = false then ([], 10) else (Hx.refGo (Hx.lookL (Hx.scr1 t).1) (Hx.theadF s).1 (Hx.scr2 t).1 (Hx.tableF s).2 0 0 [] [0, 0, 0, 0], 0)) := by show _ = _; rw [unhide HF2, if_neg (by rw [he]; exact fun h => h rfl)]
        have HRT := hide (Hx.right_of hwr)
        have hJ10 : (Hx.theadF s).1 < 10 := Hx.numF_val s 1 _
        obtain ⟨l, hl⟩ : ∃ l, l = (Hx.tableF s).2 := ⟨_, rfl⟩
        obtain ⟨J, hJ⟩ : ∃ J, J = (Hx.theadF s).1 := ⟨_, rfl⟩
        rw [← hl] at hown hlen HRT HF3
        rw [← hJ] at hJ10 HF3 ⊢
        obtain ⟨a1, c1, rfl⟩ := own_form hown
        have HOWN := hide ((own_mono hown (Nat.zero_le _)).alloc (.cells #[.int .i64 (J : Int), .slice a1 l.length c1] 103))
        have HBE := hide (belA (.cells #[.int .i64 (J : Int), .slice a1 l.length c1] 103) hbe)
        have HTB := hide (bN #[.int .i64 (J : Int), .slice a1 l.length c1] 103 (w := w1) rfl)
        clear hbe hown he hbad hwr hl hJ HF2 HLK
        go_upto_region 4 with fail
        obtain ⟨tb, htb⟩ : ∃ tb, tb = w1.heap.size := ⟨_, rfl⟩
        rw [← htb] at HTB ⊢
        clear htb
        generalize w1.alloc (.cells #[.int .i64 (J : Int), .slice a1 l.length c1] 103) = w2 at *
        go_wp2_with fail
        refine (readscript_any t w2 ht8 ((unhide HTAB).below (unhide HBE))).mono ?_
        rintro e w3 ⟨hb3, ⟨hok, rfl⟩ | ⟨hok, hl1, hl2, v1, v2, rfl, hv1, hv2⟩⟩
        · have HF : Hid (FIN = ([], 10)) := by show _ = _; rw [unhide HF3, if_pos hok]
          have HB3 := hide (blB hb3 (unhide HBE))
          clear hb3 hok HF3
          go_wp2_with fail
          go_returns
          exact ⟨by rw [unhide HF]; rfl, (unhide HB3).alloc (unhide HB3).size _⟩
        · obtain ⟨clock, hck⟩ : ∃ clock, clock = (Hx.scr1 t).1 := ⟨_, rfl⟩
          obtain ⟨takes, htk⟩ : ∃ takes, takes = (Hx.scr2 t).1 := ⟨_, rfl⟩
          have htl : ∀ v ∈ takes, v < 1000 := by rw [htk]; exact fun v hv => Hx.numbersF_lt v hv
          have hcs : clock.sum ≤ 1000000 := by
            have := sum_le_mul (Hx.scr1 t).1 (fun v hv => Hx.numbersF_lt v hv)
            rw [hck]
            omega
          rw [← hck] at hv1 hl1 HF3
          rw [← htk] at hv2 hl2 HF3
          have HF : Hid (FIN = (Hx.tellF l (Hx.machF l J clock takes), 0)) := by
            show _ = _
            rw [unhide HF3, if_neg (by rw [hok]; decide), Hx.machine_is (unhide HRT)]; rfl
          obtain ⟨ca, cc, rfl⟩ := own_form hv1
          obtain ⟨ka, kc, rfl⟩ := own_form hv2
          have HV1 := hide ((own_mono hv1 (Nat.zero_le _)).alloc (.cells #[.slice ca clock.length cc, .slice ka takes.length kc] 109))
          have HV2 := hide ((own_mono hv2 (Nat.zero_le _)).alloc (.cells #[.slice ca clock.length cc, .slice ka takes.length kc] 109))
          have HOW := hide ((own_below (unhide HOWN) hb3).alloc (.cells #[.slice ca clock.length cc, .slice ka takes.length kc] 109))
          have HB4 := hide (belA (.cells #[.slice ca clock.length cc, .slice ka takes.length kc] 109) (blB hb3 (unhide HBE)))
          have HTB4 := hide (bA (.cells #[.slice ca clock.length cc, .slice ka takes.length kc] 109) (bBl hb3 (unhide HTB)))
          have HSB := hide (bN #[.slice ca clock.length cc, .slice ka takes.length kc] 109 (w := w3) rfl)
          have HTL := hide htl
          have HCS := hide hcs
          clear hb3 hok hv1 hv2 hck htk htl hcs HF3 HOWN HBE HTB
          go_upto_region 7 with fail
          obtain ⟨sb, hsb⟩ : ∃ sb, sb = w3.heap.size := ⟨_, rfl⟩
          rw [← hsb] at HSB ⊢
          clear hsb
          generalize w3.alloc (.cells #[.slice ca clock.length cc, .slice ka takes.length kc] 109) = w4 at *
          have t0 : w4.cell? ⟨tb, 0, none⟩ = some (.int .i64 (J : Int)) := blk_cell (unhide HTB4) 0
          have t1 : w4.cell? ⟨tb, 1, none⟩ = some (.slice a1 l.length c1) := blk_cell (unhide HTB4) 1
          have s0 : w4.cell? ⟨sb, 0, none⟩ = some (.slice ca clock.length cc) := blk_cell (unhide HSB) 0
          have s1 : w4.cell? ⟨sb, 1, none⟩ = some (.slice ka takes.length kc) := blk_cell (unhide HSB) 1
          have HSM := hide (start_mem w4 J (.slice a1 l.length c1) (.slice ca clock.length cc) (.slice ka takes.length kc) l clock takes (unhide HOW) (unhide HV1) (unhide HV2) (unhide HRT).ok hlen (by omega) (by omega) (unhide HTL) hJ10)
          have HRUN := hide (mrun_any _ _ _ _ _ (unhide HSM).1 (unhide HSM).2 (start_ok l) (by show 0 + clock.sum ≤ 1000000; have hh : clock.sum ≤ 1000000 := unhide HCS; omega))
          have HLKO := hide (mach_lk (l := l) (J := J) (unhide HTL) (unhide HCS))
          go_upto_region 10 with fail
          go_wp2_with fail
          refine (unhide HRUN).mono ?_
          rintro e w6 ⟨rfl, sv, hm6⟩
          have hg6 := hm6.gr
          have HB6 : Hid (Below w.heap.size w w6) := by
            have h1 := (unhide HB4).alloc (unhide HB4).size (.cells #[.int .i64 (J : Int), .slice a1 l.length c1, .slice ca clock.length cc, .slice ka takes.length kc, .int .i64 0, .int .i64 0, .bool false, .slice none 0 0, .int .i64 0, .int .i64 0, .int .i64 0, .int .i64 0] 115)
            exact h1.grown hg6 h1.size (fun k e => by cases e; exact (unhide HB4).size)
          have HM6 := hide hm6
          clear hm6 hg6
          have HW := hide (mwrite_any _ _ w6 _ sv _ (unhide HSM).1 (unhide HM6) (unhide HLKO).lt (unhide HLKO).k (unhide HLKO).len (unhide HLKO).st ((unhide HON).below (unhide HB6)) ((unhide HP).below (unhide HB6)))
          go_wp2_with fail
          refine (unhide HW).mono ?_
          rintro e w7 ⟨rfl, hb7⟩
          have HB7 := hide (blB hb7 (unhide HB6))
          clear hb7
          go_wp2_with fail
          go_returns
          rw [unhide HF]
          exact ⟨rfl, unhide HB7⟩

end Go.Proofs.YtppcnlkhdgmaiaaDoor
namespace Go.Proofs.YtppcnlkhdgmaiaaDoor
open Go.RowKit

/-- What Run wants of memory: the two tables, and the library's powers of ten. -/
def RunE (w : World) : Prop := Tab w ∧ Onm w ∧ P10 w
theorem lasts_run : Lasts RunE := fun _ _ h hb => ⟨h.1.below hb, h.2.1.below hb, h.2.2.below hb⟩

end Go.Proofs.YtppcnlkhdgmaiaaDoor
namespace Go.Proofs.YtppcnlkhdgmaiaaDoor
open Go.ChangeShapes Go.WideShapes Go.ChangeAt Go.RowKit Go.Deep

theorem gOnm : Tryd.prog.globalNamed "hatch/hatch.outcomeNames" = some 0 := by kernel_rfl
theorem gOnmType : (Tryd.prog.globals[0]?).map (·.type) = some 151 := by kernel_rfl
theorem cellsOnm : Tryd.prog.cellsOf 151 = 12 := by kernel_rfl
theorem cellsOn1 : Tryd.prog.cellsOf 150 = 2 := by kernel_rfl
theorem cells4 : Tryd.prog.cellsOf 4 = 1 := by kernel_rfl
theorem gP10 : Tryd.prog.globalNamed "internal/strconv.uint64pow10" = some 2 := by kernel_rfl
theorem gP10Type : (Tryd.prog.globals[2]?).map (·.type) = some 198 := by kernel_rfl
theorem cellsP10 : Tryd.prog.cellsOf 198 = 20 := by kernel_rfl
theorem cellsU64 : Tryd.prog.cellsOf 185 = 1 := by kernel_rfl

/-- The table of outcomes, as the row lists it. -/
def onmData : DataW Unit := .agg ((List.range 6).map fun i => .agg [.lit (.string (Hx.outB i)), .lit (.bool (decide (2 ≤ i)))])

set_option maxRecDepth 100000 in
theorem onm_of {W : World} (h : laidMet Tryd.prog [("hatch/hatch.outcomeNames", onmData)] W) : Onm W := by
  obtain ⟨ps, ⟨g', t', cs, fuel, p, q, hg', ht', hvar, hd, _, _⟩, _⟩ := h
  obtain rfl := Option.some.inj (gOnm.symm.trans hg')
  obtain rfl := Option.some.inj (gOnmType.symm.trans ht')
  intro i hi
  cases fuel with
  | zero => simp [DataW.trod] at hd
  | succ n =>
    simp only [DataW.trod, Tryd.underlying151, cellsOnm, cellsOn1] at hd
    split at hd
    · rename_i hl
      obtain ⟨xs, hm, hx⟩ := Option.map_eq_some_iff.1 hd
      obtain ⟨b, hb, hf⟩ := Lib.mapM_at hm i i (by simp [hi])
      have hxs : xs.map (·.1) = (List.range 6).map fun i => (DataW.agg [.lit (.string (Hx.outB i)), .lit (.bool (decide (2 ≤ i)))] : DataW Unit) := by
        have := congrArg Prod.fst hx
        simpa [onmData] using this
      have hbd : b.1 = DataW.agg [.lit (.string (Hx.outB i)), .lit (.bool (decide (2 ≤ i)))] := by
        have h2 : (xs.map (·.1))[i]? = some b.1 := by simp [hb]
        rw [hxs] at h2
        simp [List.getElem?_map, List.getElem?_range hi] at h2
        exact h2.symm
      obtain ⟨ys, k, _, hye, _, hyl, hf2⟩ := DataW.trod_struct Tryd.underlying150 hf
      have g0 := hf2 0 _ rfl
      have g1 := hf2 1 _ rfl
      match ys, hyl with
      | [y0, y1], _ =>
        simp [cells9, cells4] at g0 g1
        obtain ⟨s, es, rfl, _⟩ := DataW.trod_string Tryd.underlying9 g0
        obtain ⟨b1, eb, rfl⟩ := DataW.trod_bool Tryd.underlying4 g1
        rw [hye] at hbd
        simp at hbd
        obtain ⟨h1, h2⟩ := hbd
        have c0 := World.var?_cell gOnm hvar (i * 2)
        have c1 := World.var?_cell gOnm hvar (i * 2 + 1)
        have k0 : cs.toList[i * 2]? = some (.string s) := by
          have := congrArg (·[0]?) es
          simpa [List.getElem?_take, List.getElem?_drop] using this
        have k1 : cs.toList[i * 2 + 1]? = some (.bool b1) := by
          have := congrArg (·[0]?) eb
          simpa [List.getElem?_take, List.getElem?_drop] using this
        have hs : s = ⟨(Hx.outB i).toArray⟩ := by
          cases s with
          | mk d => simp at h1; simp [← h1]
        constructor
        · rw [c0, ← hs]; simpa using k0
        · rw [c1, ← h2]; simpa using k1
    · cases hd

/-- What a row's list gives: the tables' cells. -/
theorem run_table {L : List (String × DataW Unit)} {W : World} (h0 : laidMet Tryd.prog L W)
    (e1 : L.filter (fun x => x.1 == "hatch/hatch.byteKinds") = [("hatch/hatch.byteKinds", Lib.tabData .u8 tabNums)])
    (e2 : L.filter (fun x => x.1 == "hatch/hatch.outcomeNames") = [("hatch/hatch.outcomeNames", onmData)])
    (e3 : L.filter (fun x => x.1 == "internal/strconv.uint64pow10") = [("internal/strconv.uint64pow10", Lib.tabData .u64 Lib.pow10Tab)]) : RunE W := by
  refine ⟨?_, ?_, ?_⟩
  · have h00 := h0.filter (fun x => x.1 == "hatch/hatch.byteKinds")
    rw [e1] at h00
    have h1 : Lib.TabIs Tryd.prog W "hatch/hatch.byteKinds" .u8 tabNums := Lib.tabIs_of_head (rest := []) gTab gTabType Tryd.underlying189 Tryd.underlying5 cellsU8 cells189 h00
    intro i hi
    have h2 := h1.cell gTab i (by simpa [tabNums] using hi)
    rw [tabNums_kind i hi] at h2
    exact h2
  · have h00 := h0.filter (fun x => x.1 == "hatch/hatch.outcomeNames")
    rw [e2] at h00
    exact onm_of h00
  · have h00 := h0.filter (fun x => x.1 == "internal/strconv.uint64pow10")
    rw [e3] at h00
    exact Lib.tabIs_of_head (rest := []) gP10 gP10Type Tryd.underlying198 Tryd.underlying185 cellsU64 cellsP10 h00

end Go.Proofs.YtppcnlkhdgmaiaaDoor
namespace Go.Proofs.YtppcnlkhdgmaiaaDoor
namespace Hx
def scIs (s : ByteArray) (c : Nat) (st : St) : Bool × St := if byteAt s st.pos = c then (true, ⟨st.pos + 1, st.bad⟩) else (false, st)
def scMust (s : ByteArray) (c : Nat) (st : St) : St := if byteAt s st.pos = c then ⟨st.pos + 1, st.bad⟩ else ⟨st.pos, true⟩
def scNum (s : ByteArray) (st : St) : Nat × St := ((digF s 9 st.pos 0).1, ⟨(digF s 9 st.pos 0).2, st.bad || decide ((digF s 9 st.pos 0).2 = st.pos)⟩)
/-- Is this a name? -/
def nameOk (s : ByteArray) (p : Nat) : Prop := 97 ≤ byteAt s p ∧ byteAt s p ≤ 100 ∧ 48 ≤ byteAt s (p + 1) ∧ byteAt s (p + 1) ≤ 57
instance (s : ByteArray) (p : Nat) : Decidable (nameOk s p) := by unfold nameOk; infer_instance
def scName (s : ByteArray) (st : St) : (Nat × Nat) × St :=
  if st.pos + 1 < s.size then
    if nameOk s st.pos then ((byteAt s st.pos - 97, byteAt s (st.pos + 1) - 48), ⟨st.pos + 2, st.bad⟩) else ((0, 0), ⟨st.pos + 2, true⟩)
  else ((0, 0), ⟨st.pos, true⟩)
/-- An entry, as it is scanned. -/
structure Ent where
  pl : Nat
  no : Nat
  t : Nat
  lo : Nat
  hi : Nat
  out : Int
  mn : Nat
  mx : Nat
  inn : Int
def scRest (s : ByteArray) (st : St) : (Int × Nat × Nat) × St :=
  let r := scIs s 60 st
  if r.1 then
    let o := scNum s r.2
    let a := scNum s (scMust s 58 o.2)
    let b := scNum s (scMust s 45 a.2)
    (((o.1 : Int), a.1, b.1), b.2)
  else ((-1, 0, 0), r.2)
def scInto (s : ByteArray) (st : St) : Int × St :=
  let r := scIs s 62 st
  if r.1 then (((scNum s r.2).1 : Int), (scNum s r.2).2) else (-1, r.2)
def scStep (s : ByteArray) (st : St) : Ent × St :=
  let p := scName s (scMust s 59 st)
  let t := scNum s (scMust s 64 p.2)
  let l := scNum s (scMust s 43 t.2)
  let h := scNum s (scMust s 45 l.2)
  let r := scRest s h.2
  let i := scInto s r.2
  (⟨p.1.1, p.1.2, t.1, l.1, h.1, r.1.1, r.1.2.1, r.1.2.2, i.1⟩, i.2)

theorem scIs_le {s : ByteArray} {c : Nat} {st : St} (hc : c < 256) (h : st.pos ≤ s.size) : (scIs s c st).2.pos ≤ s.size := by
  unfold scIs; split
  · rename_i g; have := byteAt_in (s := s) (i := st.pos) (by omega); show st.pos + 1 ≤ _; omega
  · exact h
theorem scMust_le {s : ByteArray} {c : Nat} {st : St} (hc : c < 256) (h : st.pos ≤ s.size) : (scMust s c st).pos ≤ s.size := by
  unfold scMust; split
  · rename_i g; have := byteAt_in (s := s) (i := st.pos) (by omega); show st.pos + 1 ≤ _; omega
  · exact h
theorem scNum_le {s : ByteArray} {st : St} (h : st.pos ≤ s.size) : (scNum s st).2.pos ≤ s.size := digF_le s 9 st.pos 0 h
theorem scName_le {s : ByteArray} {st : St} (h : st.pos ≤ s.size) : (scName s st).2.pos ≤ s.size := by
  unfold scName; split
  · split <;> (show st.pos + 2 ≤ _; omega)
  · exact h
theorem scIs_ge (s : ByteArray) (c : Nat) (st : St) : st.pos ≤ (scIs s c st).2.pos := by unfold scIs; split <;> simp
theorem scMust_ge (s : ByteArray) (c : Nat) (st : St) : st.pos ≤ (scMust s c st).pos := by unfold scMust; split <;> simp
theorem scNum_ge (s : ByteArray) (st : St) : st.pos ≤ (scNum s st).2.pos := digF_ge s 9 st.pos 0
theorem scName_ge (s : ByteArray) (st : St) : st.pos ≤ (scName s st).2.pos := by unfold scName; split <;> (try split) <;> simp
theorem scIs_bad {s : ByteArray} {c : Nat} {st : St} (h : st.bad = true) : (scIs s c st).2.bad = true := by unfold scIs; split <;> simp [h]
theorem scMust_bad {s : ByteArray} {c : Nat} {st : St} (h : st.bad = true) : (scMust s c st).bad = true := by unfold scMust; split <;> simp [h]
theorem scNum_bad {s : ByteArray} {st : St} (h : st.bad = true) : (scNum s st).2.bad = true := by simp [scNum, h]
theorem scName_bad {s : ByteArray} {st : St} (h : st.bad = true) : (scName s st).2.bad = true := by unfold scName; split <;> (try split) <;> simp [h]
theorem scRest_bad {s : ByteArray} {st : St} (h : st.bad = true) : (scRest s st).2.bad = true := by
  unfold scRest
  simp only
  split
  · exact scNum_bad (scMust_bad (scNum_bad (scMust_bad (scNum_bad (scIs_bad h)))))
  · exact scIs_bad h
theorem scInto_bad {s : ByteArray} {st : St} (h : st.bad = true) : (scInto s st).2.bad = true := by
  unfold scInto
  simp only
  split
  · exact scNum_bad (scIs_bad h)
  · exact scIs_bad h
theorem scRest_ge (s : ByteArray) (st : St) : st.pos ≤ (scRest s st).2.pos := by
  unfold scRest
  simp only
  have h := scIs_ge s 60 st
  split
  · exact Nat.le_trans h (Nat.le_trans (scNum_ge s _) (Nat.le_trans (scMust_ge s 58 _) (Nat.le_trans (scNum_ge s _) (Nat.le_trans (scMust_ge s 45 _) (scNum_ge s _)))))
  · exact h
theorem scInto_ge (s : ByteArray) (st : St) : st.pos ≤ (scInto s st).2.pos := by
  unfold scInto
  simp only
  have h := scIs_ge s 62 st
  split
  · exact Nat.le_trans h (scNum_ge s _)
  · exact h
theorem scStep_ge (s : ByteArray) (st : St) : (scMust s 59 st).pos ≤ (scStep s st).2.pos :=
  Nat.le_trans (scName_ge s _) (Nat.le_trans (scMust_ge s 64 _) (Nat.le_trans (scNum_ge s _) (Nat.le_trans (scMust_ge s 43 _) (Nat.le_trans (scNum_ge s _) (Nat.le_trans (scMust_ge s 45 _) (Nat.le_trans (scNum_ge s _) (Nat.le_trans (scRest_ge s _) (scInto_ge s _))))))))
theorem scStep_gt {s : ByteArray} {st : St} (h : (scStep s st).2.bad = false) : st.pos < (scStep s st).2.pos := by
  have hg := scStep_ge s st
  by_cases e : byteAt s st.pos = 59
  · have : scMust s 59 st = ⟨st.pos + 1, st.bad⟩ := by unfold scMust; rw [if_pos e]
    rw [this] at hg
    exact hg
  · have hb : (scMust s 59 st).bad = true := by unfold scMust; rw [if_neg e]
    have : (scStep s st).2.bad = true := scInto_bad (scRest_bad (scNum_bad (scMust_bad (scNum_bad (scMust_bad (scNum_bad (scMust_bad (scName_bad hb))))))))
    rw [h] at this; cases this
theorem scm_lt {s : ByteArray} {st : St} (h1 : st.bad = false) (h2 : st.pos < s.size) : mT s (scStep s st).2 < mT s st := by
  have e : mT s st = s.size - st.pos := by simp [mT, h1, h2]
  rw [e]
  unfold mT
  split
  · rename_i g
    have := scStep_gt g.1
    omega
  · omega
def scEnts (s : ByteArray) (st : St) (acc : List Ent) : St × List Ent :=
  if _h : st.bad = false ∧ st.pos < s.size then scEnts s (scStep s st).2 (acc ++ [(scStep s st).1]) else (st, acc)
termination_by mT s st
decreasing_by exact scm_lt _h.1 _h.2
theorem scEnts_more {s : ByteArray} {st : St} {acc : List Ent} (h1 : st.bad = false) (h2 : st.pos < s.size) : scEnts s st acc = scEnts s (scStep s st).2 (acc ++ [(scStep s st).1]) := by
  rw [scEnts, dif_pos ⟨h1, h2⟩]
theorem scEnts_end {s : ByteArray} {st : St} {acc : List Ent} (h : ¬ (st.bad = false ∧ st.pos < s.size)) : scEnts s st acc = (st, acc) := by
  rw [scEnts, dif_neg h]
def scHead (s : ByteArray) : Nat × St := scNum s (scMust s 106 ⟨0, false⟩)
def scAll (s : ByteArray) : St × List Ent := scEnts s (scHead s).2 []

/-! ### Where the program's reader finds a table the scan finds the same. -/
def isDig (s : ByteArray) (p : Nat) : Prop := 48 ≤ byteAt s p ∧ byteAt s p ≤ 57
theorem digF_same {s : ByteArray} : ∀ {m p v : Nat} (k : Nat), m ≤ k → ¬ isDig s (digF s m p v).2 → digF s k p v = digF s m p v
  | 0, p, v, k, _, h => digF_stop h
  | m + 1, p, v, 0, hk, _ => by omega
  | m + 1, p, v, k + 1, hk, h => by
    by_cases g : 48 ≤ byteAt s p ∧ byteAt s p ≤ 57
    · rw [digF_step g] at h ⊢
      rw [digF_step g]
      exact digF_same k (by omega) h
    · rw [digF_stop g, digF_stop g]
theorem digF_gt {s : ByteArray} {m p v : Nat} (h : isDig s p) : p < (digF s (m + 1) p v).2 := by
  rw [digF_step h]
  have := digF_ge s m (p + 1) (v * 10 + (byteAt s p - 48))
  omega
theorem num_sc {s : ByteArray} {m : Nat} {st : St} (hm : 1 ≤ m) (hm9 : m ≤ 9) (h : (numF s m st).2.bad = false) (hd : ¬ isDig s (numF s m st).2.pos) : scNum s st = numF s m st := by
  cases hb : st.bad
  · by_cases h0 : byteAt s st.pos = 48
    · rw [numF_zero hb h0] at hd ⊢
      have g : isDig s st.pos := ⟨by omega, by omega⟩
      have e : digF s 9 st.pos 0 = (0, st.pos + 1) := by
        rw [digF_step g, digF_stop hd, h0]
      unfold scNum
      rw [e, hb]
      simp
    · by_cases h1 : 49 ≤ byteAt s st.pos ∧ byteAt s st.pos ≤ 57
      · rw [numF_dig hb h1] at hd ⊢
        have e := digF_same (s := s) (m := m) (p := st.pos) (v := 0) 9 hm9 hd
        have g : isDig s st.pos := ⟨by omega, by omega⟩
        obtain ⟨m', rfl⟩ : ∃ m', m = m' + 1 := ⟨m - 1, by omega⟩
        have := digF_gt (s := s) (m := m') (v := 0) g
        unfold scNum
        rw [e, hb]
        have hne : ¬ (digF s (m' + 1) st.pos 0).2 = st.pos := by omega
        simp [hne]
      · rw [numF_no hb (by omega)] at h
        cases h
  · rw [numF_bad hb] at h
    rw [hb] at h; cases h
theorem one_sc {s : ByteArray} {st : St} (h : (oneF s 48 57 st).2.bad = false) (hd : ¬ isDig s (oneF s 48 57 st).2.pos) : scNum s st = oneF s 48 57 st := by
  unfold oneF at h hd ⊢
  split at h
  · cases h
  · rename_i g
    rw [if_neg g] at hd ⊢
    have gd : isDig s st.pos := ⟨by omega, by omega⟩
    have hb : st.bad = false := by
      cases hb : st.bad
      · rfl
      · exact absurd (Or.inl hb) g
    have e : digF s 9 st.pos 0 = (byteAt s st.pos - 48, st.pos + 1) := by
      rw [digF_step gd, digF_stop hd]; simp
    unfold scNum
    rw [e, hb]
    simp
theorem take_sc {s : ByteArray} {c : Nat} {st : St} (h : (takeF s c st).bad = false) : scMust s c st = takeF s c st := by
  obtain ⟨h1, h2, h3⟩ := takeF_good h
  rw [h3]
  unfold scMust
  rw [if_pos h2, h1]
theorem next_sc {s : ByteArray} {c : Nat} {st : St} (h : st.bad = false) : scIs s c st = nextF s c st := by
  unfold scIs nextF
  by_cases e : byteAt s st.pos = c
  · rw [if_pos e, if_pos ⟨h, e⟩, h]
  · rw [if_neg e, if_neg (fun g => e g.2)]
theorem take_bad {s : ByteArray} {c : Nat} {st : St} (h : (takeF s c st).bad = false) : st.bad = false := (takeF_good h).1
theorem take_byte {s : ByteArray} {c : Nat} {st : St} (h : (takeF s c st).bad = false) : byteAt s st.pos = c := (takeF_good h).2.1
theorem num_bad {s : ByteArray} {m : Nat} {st : St} (h : (numF s m st).2.bad = false) : st.bad = false := by
  cases hb : st.bad
  · rfl
  · rw [numF_bad hb] at h; rw [hb] at h; cases h
theorem one_bad {s : ByteArray} {lo hi : Nat} {st : St} (h : (oneF s lo hi st).2.bad = false) : st.bad = false := by
  cases hb : st.bad
  · rfl
  · rw [oneF_bad hb] at h; cases h
theorem nodig {s : ByteArray} {p c : Nat} (h : byteAt s p = c) (hc : c < 48 ∨ 57 < c) : ¬ isDig s p := by unfold isDig; omega
theorem name_sc {s : ByteArray} {st : St} (h : (oneF s 48 57 (oneF s 97 100 st).2).2.bad = false) :
    scName s st = (((oneF s 97 100 st).1, (oneF s 48 57 (oneF s 97 100 st).2).1), (oneF s 48 57 (oneF s 97 100 st).2).2) := by
  have h1 := one_bad h
  have g1 : ¬ (st.bad = true ∨ byteAt s st.pos < 97 ∨ 100 < byteAt s st.pos) := fun g => by
    unfold oneF at h1; rw [if_pos g] at h1; cases h1
  have e1 : oneF s 97 100 st = (byteAt s st.pos - 97, ⟨st.pos + 1, false⟩) := by unfold oneF; rw [if_neg g1]
  rw [e1] at h ⊢
  have g2 : ¬ ((⟨st.pos + 1, false⟩ : St).bad = true ∨ byteAt s (st.pos + 1) < 48 ∨ 57 < byteAt s (st.pos + 1)) := fun g => by
    unfold oneF at h; rw [if_pos g] at h; cases h
  have e2 : oneF s 48 57 ⟨st.pos + 1, false⟩ = (byteAt s (st.pos + 1) - 48, ⟨st.pos + 1 + 1, false⟩) := by unfold oneF; rw [if_neg g2]
  rw [e2]
  have hin : st.pos + 1 < s.size := byteAt_in (by omega)
  have hb : st.bad = false := by
    cases hb : st.bad
    · rfl
    · exact absurd (Or.inl hb) g1
  unfold scName
  rw [if_pos hin, if_pos ⟨by omega, by omega, by omega, by omega⟩, hb]
def entOf (y : TStp) : Ent := ⟨y.pl, y.no, y.t, y.lo, y.hi, y.out, y.mn, y.mx, y.inn⟩
theorem rest_bad {s : ByteArray} {st : St} (h : (trestF s st).2.bad = false) : st.bad = false := by
  cases hb : st.bad
  · rfl
  · have : nextF s 60 st = (false, st) := nextF_no (by simp [hb])
    simp [trestF, this, hb] at h
theorem into_bad {s : ByteArray} {st : St} (h : (tintoF s st).2.bad = false) : st.bad = false := by
  cases hb : st.bad
  · rfl
  · have : nextF s 62 st = (false, st) := nextF_no (by simp [hb])
    simp [tintoF, this, hb] at h
theorem into_sc {s : ByteArray} {st : St} (h : (tintoF s st).2.bad = false) (hd : ¬ isDig s (tintoF s st).2.pos) : scInto s st = tintoF s st ∧ ¬ isDig s st.pos := by
  have hb := into_bad h
  unfold scInto
  rw [next_sc hb]
  by_cases e : byteAt s st.pos = 62
  · have en : nextF s 62 st = (true, ⟨st.pos + 1, false⟩) := by unfold nextF; rw [if_pos ⟨hb, e⟩]
    simp only [tintoF, en, if_true] at h hd ⊢
    rw [one_sc h hd]
    exact ⟨rfl, nodig e (by omega)⟩
  · have en : nextF s 62 st = (false, st) := nextF_no (by simp [e])
    simp only [tintoF, en] at h hd ⊢
    simp at hd ⊢
    exact hd
theorem rest_sc {s : ByteArray} {st : St} (h : (trestF s st).2.bad = false) (hd : ¬ isDig s (trestF s st).2.pos) : scRest s st = (((trestF s st).1.2.1, (trestF s st).1.2.2.1, (trestF s st).1.2.2.2), (trestF s st).2) ∧ ¬ isDig s st.pos := by
  have hb := rest_bad h
  unfold scRest
  rw [next_sc hb]
  by_cases e : byteAt s st.pos = 60
  · have en : nextF s 60 st = (true, ⟨st.pos + 1, false⟩) := by unfold nextF; rw [if_pos ⟨hb, e⟩]
    simp only [trestF, en, if_true] at h hd ⊢
    have h2 := num_bad h
    have h3 := take_bad h2
    have h4 := num_bad h3
    have h5 := take_bad h4
    rw [one_sc h5 (nodig (take_byte h4) (by omega)), take_sc h4, num_sc (by omega) (by omega) h3 (nodig (take_byte h2) (by omega)), take_sc h2, num_sc (by omega) (by omega) h hd]
    exact ⟨rfl, nodig e (by omega)⟩
  · have en : nextF s 60 st = (false, st) := nextF_no (by simp [e])
    simp only [trestF, en] at h hd ⊢
    simp at hd ⊢
    exact hd
theorem step_sc {s : ByteArray} {st : St} (h : (tstepF s st).2.bad = false) (hd : ¬ isDig s (tstepF s st).2.pos) : scStep s st = (entOf (tstepF s st).1, (tstepF s st).2) := by
  have h' : (tintoF s (trestF s (numF s 3 (takeF s 45 (numF s 3 (takeF s 43 (numF s 5 (takeF s 64 (oneF s 48 57 (oneF s 97 100 (takeF s 59 st)).2).2)).2)).2)).2).2).2.bad = false := h
  obtain ⟨e9, d8⟩ := into_sc h' hd
  have h8 := into_bad h'
  obtain ⟨e8, d7⟩ := rest_sc h8 d8
  have h7 := rest_bad h8
  have h6 := num_bad h7
  have h5 := take_bad h6
  have h4 := num_bad h5
  have h3 := take_bad h4
  have h2 := num_bad h3
  have h1 := take_bad h2
  have h0 := one_bad (one_bad h1)
  have a0 := take_sc h0
  have a1 := name_sc h1
  have a2 := take_sc h2
  have a3 := num_sc (by omega) (by omega) h3 (nodig (take_byte h4) (by omega))
  have a4 := take_sc h4
  have a5 := num_sc (by omega) (by omega) h5 (nodig (take_byte h6) (by omega))
  have a6 := take_sc h6
  have a7 := num_sc (by omega) (by omega) h7 d7
  unfold scStep
  simp only [a0, a1, a2, a3, a4, a5, a6, a7, e8, e9]
  rfl
/-- Behind a step of a table that is read to its end no digit stands. -/
theorem tables_good {s : ByteArray} : ∀ (st : St) (acc : List TStp), (tablesF s st acc).1.bad = false → st.bad = false := by
  intro st acc
  induction st, acc using tablesF.induct (s := s) with
  | case1 st acc hc ih => intro _; exact hc.1
  | case2 st acc hc =>
    intro h
    rw [tablesF, dif_neg hc] at h
    exact h
theorem tables_dig {s : ByteArray} {st : St} {acc : List TStp} (h : (tablesF s st acc).1.bad = false) : ¬ isDig s st.pos := by
  by_cases hp : st.pos < s.size
  · have hb := tables_good st acc h
    rw [tablesF_more hb hp] at h
    have h1 := tables_good _ _ h
    cases hk : (takeF s 59 st).bad
    · exact nodig (take_byte hk) (by omega)
    · rw [tstepF_bad hk] at h1; cases h1
  · intro g
    have := byteAt_ge (s := s) (i := st.pos) (by omega)
    unfold isDig at g
    omega
theorem tables_sc {s : ByteArray} : ∀ (st : St) (acc : List TStp), (tablesF s st acc).1.bad = false → scEnts s st (acc.map entOf) = ((tablesF s st acc).1, (tablesF s st acc).2.map entOf) := by
  intro st acc
  induction st, acc using tablesF.induct (s := s) with
  | case1 st acc hc ih =>
    intro h
    rw [tablesF_more hc.1 hc.2] at h ⊢
    rw [scEnts_more hc.1 hc.2, step_sc (tables_good _ _ h) (tables_dig h)]
    have := ih h
    rw [List.map_append] at this
    exact this
  | case2 st acc hc =>
    intro _
    rw [tablesF_end hc, scEnts_end hc]
theorem table_sc {s : ByteArray} (h : (tableF s).1.bad = false) : scHead s = theadF s ∧ scAll s = ((tableF s).1, (tableF s).2.map entOf) := by
  have h1 : (theadF s).2.bad = false := tables_good _ _ h
  have h2 := num_bad h1
  have e : scHead s = theadF s := by
    unfold scHead theadF
    rw [take_sc h2]
    exact num_sc (by omega) (by omega) h1 (tables_dig h)
  refine ⟨e, ?_⟩
  unfold scAll
  rw [e]
  exact tables_sc _ [] h
end Hx
end Go.Proofs.YtppcnlkhdgmaiaaDoor
namespace Go.Proofs.YtppcnlkhdgmaiaaDoor
open Go.RowKit
set_option maxHeartbeats 1000000 in
theorem scis_any (s : ByteArray) (b : Nat) (st : Hx.St) (c : Int) (cn : Nat) (w : World) (hs : s.size ≤ 10000000) (hp : st.pos ≤ s.size) (hc : c = (cn : Int)) (hcn : cn < 256) (hr : Rd 95 s b st w) :
    Calls Tryd.prog 39 #[.pointer (some ⟨b, 0, none⟩), .int .u8 c] w fun e w' => e = .returned (.bool (Hx.scIs s cn st).1) ∧ Rd 95 s b (Hx.scIs s cn st).2 w' ∧ w.grownBy w' (some b) := by
  have c0 := hr.c0
  have c1 := hr.c1
  have f1 := hr.fz 1
  have HC := (show Hid (c = (cn : Int)) from hc)
  have HR := (show Hid (Rd 95 s b st w) from hr)
  clear hc hr
  obtain ⟨pos, bad⟩ := st
  simp only at c1 hp
  by_cases hlt : pos < s.size
  · by_cases he : ((s[pos]'hlt).toNat : Int) = c
    · have HF : Hid (Hx.scIs s cn ⟨pos, bad⟩ = (true, ⟨pos + 1, bad⟩)) := by
        show _ = _
        unfold Hx.scIs
        rw [if_pos (by show Hx.byteAt s pos = cn; rw [Hx.byteAt_lt hlt]; have := unhide HC; omega)]
      have hne : (((s[pos]'hlt).toNat : Int) != c) = false := by simp [he]
      have hge : decide ((s.size : Int) ≤ (pos : Int)) = false := by simp; omega
      have HE := hide he
      clear he
      go_enter Tryd.func39, Tryd.ntmps39
      go_wp2_with fail
      go_quiet (fail)
      go_wp2_with fail
      go_returns
      rw [unhide HF]
      exact ⟨rfl, Rd.set1 (Rd.drewN (unhide HR) _) (pos + 1), grown_trans (grown_drewN _ _ _) (grown_set _ _ _ _)⟩
    · have HF : Hid (Hx.scIs s cn ⟨pos, bad⟩ = (false, ⟨pos, bad⟩)) := by
        show _ = _
        unfold Hx.scIs
        rw [if_neg (by show ¬ Hx.byteAt s pos = cn; rw [Hx.byteAt_lt hlt]; have := unhide HC; omega)]
      have hne : (((s[pos]'hlt).toNat : Int) != c) = true := by simpa using he
      have hge : decide ((s.size : Int) ≤ (pos : Int)) = false := by simp; omega
      have HE := hide he
      clear he
      go_enter Tryd.func39, Tryd.ntmps39
      go_wp2_with fail
      go_quiet (fail)
      go_wp2_with fail
      go_returns
      rw [unhide HF]
      exact ⟨rfl, Rd.drewN (unhide HR) _, grown_drewN _ _ _⟩
  · have HF : Hid (Hx.scIs s cn ⟨pos, bad⟩ = (false, ⟨pos, bad⟩)) := by
      show _ = _
      unfold Hx.scIs
      rw [if_neg (by show ¬ Hx.byteAt s pos = cn; rw [Hx.byteAt_ge (by omega)]; omega)]
    have hge : decide ((s.size : Int) ≤ (pos : Int)) = true := by simp; omega
    go_enter Tryd.func39, Tryd.ntmps39
    go_wp2_with fail
    go_quiet (fail)
    go_wp2_with fail
    go_returns
    rw [unhide HF]
    exact ⟨rfl, Rd.drewN (unhide HR) _, grown_drewN _ _ _⟩

set_option maxHeartbeats 1000000 in
theorem scmust_any (s : ByteArray) (b : Nat) (st : Hx.St) (c : Int) (cn : Nat) (w : World) (hs : s.size ≤ 10000000) (hp : st.pos ≤ s.size) (hc : c = (cn : Int)) (hcn : cn < 256) (hr : Rd 95 s b st w) :
    Calls Tryd.prog 36 #[.pointer (some ⟨b, 0, none⟩), .int .u8 c] w fun e w' => e = .returned (.tuple #[]) ∧ Rd 95 s b (Hx.scMust s cn st) w' ∧ w.grownBy w' (some b) := by
  have HI := hide (scis_any s b st c cn w hs hp hc hcn hr)
  obtain ⟨r, hrr⟩ : ∃ r, r = Hx.scIs s cn st := ⟨_, rfl⟩
  rw [← hrr] at HI
  clear hr hc
  by_cases he : Hx.byteAt s st.pos = cn
  · have HF : Hid (Hx.scMust s cn st = ⟨st.pos + 1, st.bad⟩) := by show _ = _; unfold Hx.scMust; rw [if_pos he]
    obtain rfl : r = (true, ⟨st.pos + 1, st.bad⟩) := by rw [hrr]; unfold Hx.scIs; rw [if_pos he]
    clear hrr he
    go_enter Tryd.func36, Tryd.ntmps36
    go_wp2_with fail
    refine (unhide HI).mono ?_
    rintro e w1 ⟨rfl, hr1, hg1⟩
    have HR := hide hr1
    have HG := hide hg1
    clear hr1 hg1
    go_wp2_with fail
    go_end0
    rw [unhide HF]
    exact ⟨rfl, unhide HR, unhide HG⟩
  · have HF : Hid (Hx.scMust s cn st = ⟨st.pos, true⟩) := by show _ = _; unfold Hx.scMust; rw [if_neg he]
    obtain rfl : r = (false, st) := by rw [hrr]; unfold Hx.scIs; rw [if_neg he]
    clear hrr he
    go_enter Tryd.func36, Tryd.ntmps36
    go_wp2_with fail
    refine (unhide HI).mono ?_
    rintro e w1 ⟨rfl, hr1, hg1⟩
    have c2 := hr1.c2
    have f2 := hr1.fz 2
    have HR := hide hr1
    have HG := hide hg1
    clear hr1 hg1
    go_wp2_with fail
    go_end0
    rw [unhide HF]
    exact ⟨rfl, Rd.set2 (unhide HR) true, grown_trans (unhide HG) (grown_set _ _ _ _)⟩
end Go.Proofs.YtppcnlkhdgmaiaaDoor
namespace Go.Proofs.YtppcnlkhdgmaiaaDoor
open Go.RowKit

set_option maxRecDepth 100000 in
set_option maxHeartbeats 2000000 in
theorem scname_any (s : ByteArray) (b : Nat) (st : Hx.St) (w : World) (hs : s.size ≤ 10000000) (hp : st.pos ≤ s.size) (hr : Rd 95 s b st w) :
    Calls Tryd.prog 38 #[.pointer (some ⟨b, 0, none⟩)] w fun e w' => e = .returned (.tuple #[.int .i64 ((Hx.scName s st).1.1 : Int), .int .i64 ((Hx.scName s st).1.2 : Int)]) ∧ Rd 95 s b (Hx.scName s st).2 w' ∧ w.grownBy w' (some b) := by
  have c0 := hr.c0
  have c1 := hr.c1
  have c2 := hr.c2
  have f1 := hr.fz 1
  have f2 := hr.fz 2
  have HR := hide hr
  clear hr
  obtain ⟨pos, bad⟩ := st
  simp only at c1 c2 hp
  by_cases hlt : pos + 1 < s.size
  · have hlt0 : pos < s.size := by omega
    have e0 : Hx.byteAt s pos = (s[pos]'hlt0).toNat := Hx.byteAt_lt hlt0
    have e1 : Hx.byteAt s (pos + 1) = (s[pos + 1]'hlt).toNat := Hx.byteAt_lt hlt
    have hge : decide ((s.size : Int) ≤ (pos : Int) + 1) = false := by simp; omega
    have hI0 : (0 : Int) ≤ (pos : Int) + 1 := by omega
    have hI1 : (pos : Int) + 1 < (s.size : Int) := by omega
    have hI2 : ((pos : Int) + 1).toNat = pos + 1 := by omega
    have q0 : ((s[pos]'hlt0).toNat : Int) < 256 := by have := (s[pos]'hlt0).toNat_lt; omega
    have q1 : ((s[pos + 1]'hlt).toNat : Int) < 256 := by have := (s[pos + 1]'hlt).toNat_lt; omega
    by_cases hn : Hx.nameOk s pos
    · have HF : Hid (Hx.scName s ⟨pos, bad⟩ = ((Hx.byteAt s pos - 97, Hx.byteAt s (pos + 1) - 48), ⟨pos + 2, bad⟩)) := by
        show _ = _
        unfold Hx.scName
        rw [if_pos hlt, if_pos hn]
      obtain ⟨n1, n2, n3, n4⟩ := hn
      rw [e0] at n1 n2
      rw [e1] at n3 n4
      have h1 : ¬ ((s[pos]'hlt0).toNat : Int) - 97 < 0 := by omega
      have h2 : ¬ 3 < ((s[pos]'hlt0).toNat : Int) - 97 := by omega
      have h3 : ¬ ((s[pos + 1]'hlt).toNat : Int) - 48 < 0 := by omega
      have h4 : ¬ 9 < ((s[pos + 1]'hlt).toNat : Int) - 48 := by omega
      have HV : Hid (((Hx.byteAt s pos - 97 : Nat) : Int) = ((s[pos]'hlt0).toNat : Int) - 97 ∧ ((Hx.byteAt s (pos + 1) - 48 : Nat) : Int) = ((s[pos + 1]'hlt).toNat : Int) - 48) := by
        constructor <;> omega
      clear e0 e1 n1 n2 n3 n4
      go_enter Tryd.func38, Tryd.ntmps38
      go_wp2_with fail
      go_quiet (fail)
      go_wp2_with fail
      go_quiet (fail)
      go_wp2_with fail
      go_quiet (fail)
      go_wp2_with fail
      go_returns
      rw [unhide HF]
      refine ⟨?_, Rd.set1 (Rd.drewN (unhide HR) _) (pos + 2), grown_trans (grown_drewN _ _ _) (grown_set _ _ _ _)⟩
      simp only
      rw [(unhide HV).1, (unhide HV).2]
      rfl
    · have HF : Hid (Hx.scName s ⟨pos, bad⟩ = ((0, 0), ⟨pos + 2, true⟩)) := by
        show _ = _
        unfold Hx.scName
        rw [if_pos hlt, if_neg hn]
      have hc : ((s[pos]'hlt0).toNat : Int) - 97 < 0 ∨ (¬ ((s[pos]'hlt0).toNat : Int) - 97 < 0 ∧ 3 < ((s[pos]'hlt0).toNat : Int) - 97) ∨ (¬ ((s[pos]'hlt0).toNat : Int) - 97 < 0 ∧ ¬ 3 < ((s[pos]'hlt0).toNat : Int) - 97 ∧ ((s[pos + 1]'hlt).toNat : Int) - 48 < 0) ∨ (¬ ((s[pos]'hlt0).toNat : Int) - 97 < 0 ∧ ¬ 3 < ((s[pos]'hlt0).toNat : Int) - 97 ∧ ¬ ((s[pos + 1]'hlt).toNat : Int) - 48 < 0 ∧ 9 < ((s[pos + 1]'hlt).toNat : Int) - 48) := by
        unfold Hx.nameOk at hn
        rw [e0, e1] at hn
        omega
      clear e0 e1 hn
      rcases hc with h1 | ⟨h1, h2⟩ | ⟨h1, h2, h3⟩ | ⟨h1, h2, h3, h4⟩
      all_goals
        go_enter Tryd.func38, Tryd.ntmps38
        go_wp2_with fail
        go_quiet (fail)
        go_wp2_with fail
        go_quiet (fail)
        go_wp2_with fail
        go_quiet (fail)
        go_wp2_with fail
        go_returns
        rw [unhide HF]
        exact ⟨rfl, Rd.set2 (Rd.set1 (Rd.drewN (unhide HR) _) (pos + 2)) true, grown_trans (grown_trans (grown_drewN _ _ _) (grown_set _ _ _ _)) (grown_set _ _ _ _)⟩
  · have HF : Hid (Hx.scName s ⟨pos, bad⟩ = ((0, 0), ⟨pos, true⟩)) := by
      show _ = _
      unfold Hx.scName
      rw [if_neg hlt]
    have hge : decide ((s.size : Int) ≤ (pos : Int) + 1) = true := by simp; omega
    go_enter Tryd.func38, Tryd.ntmps38
    go_wp2_with fail
    go_quiet (fail)
    go_wp2_with fail
    go_returns
    rw [unhide HF]
    exact ⟨rfl, Rd.set2 (Rd.drewN (unhide HR) _) true, grown_trans (grown_drewN _ _ _) (grown_set _ _ _ _)⟩
end Go.Proofs.YtppcnlkhdgmaiaaDoor
namespace Go.Proofs.YtppcnlkhdgmaiaaDoor
open Go.RowKit

theorem Hx.digF_cut {s : ByteArray} {k p v : Nat} (h : (Hx.digF s k p v).2 = p) : Hx.digF s k p v = (v, p) := by
  cases k with
  | zero => rfl
  | succ k =>
    by_cases g : 48 ≤ Hx.byteAt s p ∧ Hx.byteAt s p ≤ 57
    · rw [Hx.digF_step g] at h
      have := Hx.digF_ge s k (p + 1) (v * 10 + (Hx.byteAt s p - 48))
      omega
    · exact Hx.digF_stop g

set_option maxRecDepth 100000 in
set_option maxHeartbeats 4000000 in
theorem scnum_any (s : ByteArray) (b : Nat) (st : Hx.St) (w : World) (hs : s.size ≤ 10000000) (hp : st.pos ≤ s.size) (hr : Rd 95 s b st w) :
    Calls Tryd.prog 37 #[.pointer (some ⟨b, 0, none⟩)] w fun e w' => e = .returned (.int .i64 ((Hx.scNum s st).1 : Int)) ∧ Rd 95 s b (Hx.scNum s st).2 w' ∧ w.grownBy w' (some b) := by
  have c1 := hr.c1
  have HR := hide hr
  clear hr
  obtain ⟨p0, bad⟩ := st
  simp only at c1 hp
  go_enter Tryd.func37, Tryd.ntmps37
  go_wp2_with fail
  go_loopg [3] 10 (fun gk v wr => ∃ k m : Nat, k ≤ 9 ∧ gk = 10 - k ∧ v = .int .i64 (m : Int) ∧ m < 10 ^ k ∧ p0 + k ≤ s.size ∧ Rd 95 s b ⟨p0 + k, bad⟩ wr ∧ w.grownBy wr (some b) ∧ Hid (Hx.digF s (9 - k) (p0 + k) m = Hx.digF s 9 p0 0))
  case atStart => exact ⟨0, 0, Nat.zero_le _, rfl, rfl, by decide, hp, unhide HR, World.grownBy.refl _ _, rfl⟩
  case round =>
    obtain ⟨k, m, hk, rfl, rfl, hmk, hpos, hrd, hgr, HD⟩ := hrel
    have c0 := hrd.c0
    have c1 := hrd.c1
    have c2 := hrd.c2
    have f1 := hrd.fz 1
    have f2 := hrd.fz 2
    simp only at c1 c2
    have HRD := hide hrd
    have HG := hide hgr
    have HM := hide hmk
    have hm9 : m < 1000000000 := Nat.lt_of_lt_of_le hmk (Nat.le_trans (Nat.pow_le_pow_right (by omega) hk) (by decide))
    obtain ⟨pos, hpo⟩ : ∃ pos, pos = p0 + k := ⟨_, rfl⟩
    rw [← hpo] at HD HRD c1 hpos
    have HPO := hide hpo
    have hw : IntKind.i64.wrap ((pos : Int) - (p0 : Int)) = (k : Int) := by
      rw [show (pos : Int) - (p0 : Int) = (k : Int) by omega]
      exact IntWalk.i64_in _ ⟨by omega, by omega⟩
    clear hrd hgr hmk hpo
    by_cases hgo : (48 ≤ Hx.byteAt s pos ∧ Hx.byteAt s pos ≤ 57) ∧ k < 9
    · obtain ⟨hdg, hk9⟩ := hgo
      have hin : pos < s.size := Hx.byteAt_in (by omega)
      have hb1 : Hx.byteAt s pos = (s[pos]'hin).toNat := Hx.byteAt_lt hin
      have h48 : (48 : Int) ≤ ((s[pos]'hin).toNat : Int) := by omega
      have h57 : ((s[pos]'hin).toNat : Int) ≤ 57 := by omega
      have hkI : (k : Int) < 9 := by omega
      have hinI : (pos : Int) < (s.size : Int) := by omega
      have HFN : Hid (Hx.digF s (9 - (k + 1)) (pos + 1) (m * 10 + (Hx.byteAt s pos - 48)) = Hx.digF s 9 p0 0) := by
        have e : 9 - k = (9 - (k + 1)) + 1 := by omega
        have := unhide HD
        rw [e, Hx.digF_step hdg] at this
        exact this
      have HM2 : Hid (m * 10 + (Hx.byteAt s pos - 48) < 10 ^ (k + 1)) := by
        have := unhide HM
        show _ < _
        rw [Nat.pow_succ]; omega
      have HV : Hid (((m * 10 + (Hx.byteAt s pos - 48) : Nat) : Int) = 10 * (m : Int) + (((s[pos]'hin).toNat : Int) - 48)) := by
        show _ = _
        omega
      clear hdg hb1
      go_wp2_with fail
      go_quiet (fail)
      go_wp2_with fail
      go_quiet (fail)
      go_wp2_with fail
      go_roundg (10 - (k + 1))
      case measure => omega
      case rel =>
        refine ⟨k + 1, m * 10 + (Hx.byteAt s pos - 48), by omega, rfl, by rw [unhide HV], unhide HM2, by have := unhide HPO; omega, ?_, grown_trans (unhide HG) (grown_trans (grown_drewN _ _ _) (grown_set _ _ _ _)), ?_⟩
        · rw [show p0 + (k + 1) = pos + 1 by have := unhide HPO; omega]
          exact Rd.set1 (Rd.drewN (unhide HRD) _) (pos + 1)
        · rw [show p0 + (k + 1) = pos + 1 by have := unhide HPO; omega]
          exact unhide HFN
    · have HFN : Hid ((m, pos) = Hx.digF s 9 p0 0) := by
        have := unhide HD
        by_cases hdg : 48 ≤ Hx.byteAt s pos ∧ Hx.byteAt s pos ≤ 57
        · have : k = 9 := by
            by_cases h : k < 9
            · exact absurd ⟨hdg, h⟩ hgo
            · omega
          subst this
          exact unhide HD
        · rw [Hx.digF_stop hdg] at this
          exact this
      have HS : Hid (Hx.scNum s ⟨p0, bad⟩ = (m, ⟨pos, bad || decide (pos = p0)⟩)) := by
        show _ = _
        unfold Hx.scNum
        rw [← unhide HFN]
      have hc : ¬ pos < s.size ∨ (∃ hin : pos < s.size, ¬ (48 : Int) ≤ ((s[pos]'hin).toNat : Int)) ∨ (∃ hin : pos < s.size, (48 : Int) ≤ ((s[pos]'hin).toNat : Int) ∧ ¬ ((s[pos]'hin).toNat : Int) ≤ 57) ∨ (∃ hin : pos < s.size, (48 : Int) ≤ ((s[pos]'hin).toNat : Int) ∧ ((s[pos]'hin).toNat : Int) ≤ 57 ∧ ¬ (k : Int) < 9) := by
        by_cases hin : pos < s.size
        · rw [Hx.byteAt_lt hin] at hgo
          by_cases g1 : (48 : Int) ≤ ((s[pos]'hin).toNat : Int)
          · by_cases g2 : ((s[pos]'hin).toNat : Int) ≤ 57
            · exact Or.inr (Or.inr (Or.inr ⟨hin, g1, g2, fun h => hgo ⟨⟨by omega, by omega⟩, by omega⟩⟩))
            · exact Or.inr (Or.inr (Or.inl ⟨hin, g1, g2⟩))
          · exact Or.inr (Or.inl ⟨hin, g1⟩)
        · exact Or.inl hin
      clear hgo
      by_cases hz : pos = p0
      · have HS2 : Hid (Hx.scNum s ⟨p0, bad⟩ = (m, ⟨pos, true⟩)) := by show _ = _; rw [unhide HS]; simp [hz]
        have hzd : ((pos : Int) == (p0 : Int)) = true := by simp [hz]
        have HZ := hide hz
        clear hz HS
        rcases hc with h1 | ⟨hin, h2⟩ | ⟨hin, h2, h3⟩ | ⟨hin, h2, h3, h4⟩
        all_goals
          try (have h1d : decide ((pos : Int) < (s.size : Int)) = false := by simp; omega)
          try (have h2d : decide ((48 : Int) ≤ ((s[pos]'hin).toNat : Int)) = false := by simpa using h2)
          try (have h3d : decide (((s[pos]'hin).toNat : Int) ≤ 57) = false := by simpa using h3)
          try (have h4d : decide ((k : Int) < 9) = false := by simpa using h4)
          go_wp2_with fail
          go_quiet (fail)
          go_wp2_with fail
          go_returns
          rw [unhide HS2]
          exact ⟨rfl, Rd.set2 (Rd.drewN (unhide HRD) _) true, grown_trans (unhide HG) (grown_trans (grown_drewN _ _ _) (grown_set _ _ _ _))⟩
      · have HS2 : Hid (Hx.scNum s ⟨p0, bad⟩ = (m, ⟨pos, bad⟩)) := by show _ = _; rw [unhide HS]; simp [hz]
        have hzd : ((pos : Int) == (p0 : Int)) = false := by simpa using (by omega : ¬ (pos : Int) = (p0 : Int))
        have HZ := hide hz
        clear hz HS
        rcases hc with h1 | ⟨hin, h2⟩ | ⟨hin, h2, h3⟩ | ⟨hin, h2, h3, h4⟩
        all_goals
          try (have h1d : decide ((pos : Int) < (s.size : Int)) = false := by simp; omega)
          try (have h2d : decide ((48 : Int) ≤ ((s[pos]'hin).toNat : Int)) = false := by simpa using h2)
          try (have h3d : decide (((s[pos]'hin).toNat : Int) ≤ 57) = false := by simpa using h3)
          try (have h4d : decide ((k : Int) < 9) = false := by simpa using h4)
          go_wp2_with fail
          go_quiet (fail)
          go_wp2_with fail
          go_returns
          rw [unhide HS2]
          exact ⟨rfl, Rd.drewN (unhide HRD) _, grown_trans (unhide HG) (grown_drewN _ _ _)⟩
end Go.Proofs.YtppcnlkhdgmaiaaDoor
namespace Go.Proofs.YtppcnlkhdgmaiaaDoor
open Go.RowKit

/-- An entry: nine cells. -/
def entCells (y : Hx.Ent) : List Value := [.int .i64 (y.pl : Int), .int .i64 (y.no : Int), .int .i64 (y.t : Int), .int .i64 (y.lo : Int), .int .i64 (y.hi : Int), .int .i64 y.out, .int .i64 (y.mn : Int), .int .i64 (y.mx : Int), .int .i64 y.inn]
def entsCells (l : List Hx.Ent) : List Value := l.flatMap entCells
theorem entsCells_snoc (l : List Hx.Ent) (y : Hx.Ent) : entsCells (l ++ [y]) = entsCells l ++ entCells y := by simp [entsCells]
theorem entCells_one (y : Hx.Ent) : ∀ u ∈ entCells y, u.oneCell' = true := by
  intro u hu
  simp [entCells] at hu
  rcases hu with rfl | rfl | rfl | rfl | rfl | rfl | rfl | rfl | rfl <;> rfl
theorem Tryd.infoEnt : (Tryd.prog.info? 55).map (fun i => (i.zero, i.size, i.bytes)) = some (some (.agg #[.int .i64 0, .int .i64 0, .int .i64 0, .int .i64 0, .int .i64 0, .int .i64 0, .int .i64 0, .int .i64 0, .int .i64 0]), 9, 72) := by kernel_rfl

/-- What lies in memory while entries reads, with an entry under way in block xb. -/
structure InE (s : ByteArray) (w : World) (xb : Nat) (w' : World) (st : Hx.St) (xa : Array Value) (v : Value) (l : List Hx.Ent) : Prop where
  rd : Rd 95 s w.heap.size st w'
  be : Below w.heap.size w w'
  xx : w'.heap[xb]? = some (.cells xa 55 (0, 0))
  ow : w'.ownsRow (w.heap.size + 1) 55 9 v l.length (entsCells l)
  ap : v.ownBlock ≠ some xb
  ge : w.heap.size + 1 ≤ xb
theorem InE.call {s w xb w' w'' st st' xa v l} (h : InE s w xb w' st xa v l) (hr : Rd 95 s w.heap.size st' w'') (hg : w'.grownBy w'' (some w.heap.size)) : InE s w xb w'' st' xa v l :=
  ⟨hr, h.be.grown hg h.be.size (by simp), blk_kept h.xx hg (by have := h.ge; simp; omega), h.ow.kept hg (own_ne h.ow (by omega)), h.ap, h.ge⟩
theorem InE.setx {s w xb w' st xa v l} (h : InE s w xb w' st xa v l) (o : Nat) (u : Value) : InE s w xb (w'.setCell ⟨xb, o, none⟩ u) st (xa.setIfInBounds o u) v l :=
  ⟨h.rd.set_other (by have := h.ge; omega) _ _, h.be.setCell (by have := h.ge; show _ ≤ xb; omega) _, blk_set h.xx _ _, h.ow.kept (grown_set w' xb o u) (Or.inr h.ap), h.ap, h.ge⟩
theorem InE.app {s w xb w' w'' st xa v v' l y o} (h : InE s w xb w' st xa v l) (ho : w''.ownsRow (w.heap.size + 1) 55 9 v' (l.length + 1) (entsCells l ++ entCells y)) (hg : (w'.alloc o).grownBy w'' v.ownBlock) :
    Rd 95 s w.heap.size st w'' ∧ Below w.heap.size w w'' ∧ w''.ownsRow (w.heap.size + 1) 55 9 v' (l ++ [y]).length (entsCells (l ++ [y])) := by
  have hb := h.be.grown (grown_alloc w' o none) h.be.size (by simp)
  refine ⟨(h.rd.kept (grown_alloc w' o none) (by simp)).kept hg (fun e => by have := (h.ow.lt _ e.symm).1; omega), hb.grown hg hb.size (fun k e => by have := (h.ow.lt k e).1; omega), ?_⟩
  rw [entsCells_snoc, List.length_append]; exact ho

set_option maxRecDepth 100000 in
set_option maxHeartbeats 8000000 in
theorem entries_any (s : ByteArray) (w : World) (hs : s.size ≤ 1000) :
    Calls Tryd.prog 19 #[.string s] w fun e w' => Below w.heap.size w w' ∧ ∃ v, e = .returned (.tuple #[v, .int .i64 ((Hx.scHead s).1 : Int), .bool (!(Hx.scAll s).1.bad)]) ∧ w'.ownsRow (w.heap.size + 1) 55 9 v (Hx.scAll s).2.length (entsCells (Hx.scAll s).2) ∧ (Hx.scAll s).2.length ≤ 1001 := by
  have hs1 : s.size ≤ 10000000 := by omega
  obtain ⟨i0, hi, hz0, hz1, hz2⟩ := info_parts Tryd.infoEnt
  have HI := hide hi
  have HZ0 := hide hz0
  have HZ1 := hide hz1
  have HZ2 := hide hz2
  clear hi hz0 hz1 hz2
  go_enter Tryd.func19, Tryd.ntmps19
  go_wp2_with fail
  have HR0 : Hid (Rd 95 s w.heap.size ⟨0, false⟩ _) := blk_new w #[.string s, .int .i64 0, .bool false] 95
  have HB0 := hide ((Below.refl w.heap.size w).alloc (Nat.le_refl _) (.cells #[.string s, .int .i64 0, .bool false] 95))
  refine (scmust_any s _ ⟨0, false⟩ _ 106 _ hs1 (Nat.zero_le _) rfl (by omega) (unhide HR0)).mono ?_
  rintro e w1 ⟨rfl, hr, hg⟩
  have HB1 := hide ((unhide HB0).grown hg (unhide HB0).size (by simp))
  have HR1 := hide hr
  clear hr hg HR0 HB0
  go_wp2_with fail
  refine (scnum_any s _ _ _ hs1 (Hx.scMust_le (by omega) (Nat.zero_le _)) (unhide HR1)).mono ?_
  rintro e w2 ⟨rfl, hr, hg⟩
  have HB2 := hide ((unhide HB1).grown hg (unhide HB1).size (by simp))
  have HR2 : Hid (Rd 95 s w.heap.size (Hx.scHead s).2 w2) := hr
  have P2 : Hid ((Hx.scHead s).2.pos ≤ s.size) := Hx.scNum_le (Hx.scMust_le (by omega) (Nat.zero_le _))
  clear hr hg HR1 HB1
  have hjf : (Hx.scNum s (Hx.scMust s 106 ⟨0, false⟩)).1 = (Hx.scHead s).1 := rfl
  rw [hjf]
  clear hjf
  obtain ⟨j, hj⟩ : ∃ j, j = (Hx.scHead s).1 := ⟨_, rfl⟩
  rw [← hj]
  have HJ := hide hj
  clear hj
  go_wp2_with fail
  go_loopg [6] (Hx.mT s (Hx.scHead s).2) (fun gk lv wr => ∃ (st : Hx.St) (acc : List Hx.Ent), st.pos ≤ s.size ∧ gk = Hx.mT s st ∧ acc.length ≤ s.size + 1 ∧ (st.bad = false → acc.length ≤ st.pos) ∧ Rd 95 s w.heap.size st wr ∧ Below w.heap.size w wr ∧ wr.ownsRow (w.heap.size + 1) 55 9 lv acc.length (entsCells acc) ∧ Hx.scEnts s st acc = Hx.scAll s)
  case atStart => exact ⟨_, [], unhide P2, rfl, by simp, by simp, unhide HR2, unhide HB2, World.ownsRow_nil _ _ _ _, rfl⟩
  case round =>
    clear HR2 P2 HB2
    obtain ⟨st, acc, hpos, rfl, hacc, hacc2, hrd, hbe, hown, hfin⟩ := hrel
    obtain ⟨ao, cap, rfl⟩ := own_form hown
    have c1 := hrd.c1
    have c2 := hrd.c2
    have HRD := hide hrd
    have HBE := hide hbe
    have HOWN := hide hown
    have HFIN := hide hfin
    clear hrd hbe hown hfin
    by_cases hgo : st.bad = false ∧ st.pos < s.size
    · obtain ⟨pos, bad⟩ := st
      simp only at hgo c1 c2 hpos hacc2
      obtain ⟨rfl, hlt⟩ := hgo
      have hacc3 := hacc2 rfl
      have hltI : (pos : Int) < (s.size : Int) := by omega
      have HMT := hide (Hx.scm_lt (s := s) (st := ⟨pos, false⟩) rfl hlt)
      have HGT := hide (Hx.scStep_gt (s := s) (st := ⟨pos, false⟩))
      have HFIN2 := hide ((Hx.scEnts_more (s := s) (st := ⟨pos, false⟩) (acc := acc) rfl hlt).symm.trans (unhide HFIN))
      clear hacc2 HFIN
      go_wp2_with fail
      have hxge : w.heap.size + 1 ≤ wr.heap.size := Rd.lt (unhide HRD)
      have IN0 : Hid (InE s w wr.heap.size _ _ _ (.slice ao acc.length cap) acc) := ⟨(unhide HRD).kept (grown_alloc wr (.cells #[.int .i64 0, .int .i64 0, .int .i64 0, .int .i64 0, .int .i64 0, .int .i64 (-1), .int .i64 0, .int .i64 0, .int .i64 (-1)] 55) none) (by simp), (unhide HBE).grown (grown_alloc wr _ none) (unhide HBE).size (by simp), blk_new wr _ _, (unhide HOWN).alloc _, fun e => by have := ((unhide HOWN).lt _ e).2; omega, hxge⟩
      clear HRD HBE HOWN c1 c2
      obtain ⟨xb, hxb⟩ : ∃ xb, xb = wr.heap.size := ⟨_, rfl⟩
      rw [← hxb] at IN0 hxge ⊢
      clear hxb
      refine (scmust_any s _ ⟨pos, false⟩ _ 59 _ hs1 hpos rfl (by omega) (unhide IN0).rd).mono ?_
      rintro e w10 ⟨rfl, hr, hg⟩
      have I10 := hide ((unhide IN0).call hr hg)
      obtain ⟨t10, hE⟩ : ∃ t, t = Hx.scMust s 59 ⟨pos, false⟩ := ⟨_, rfl⟩
      have P10 : t10.pos ≤ s.size := by rw [hE]; exact Hx.scMust_le (by omega) hpos
      rw [← hE] at I10
      have E10 := hide hE
      clear hr hg hE IN0
      go_wp2_with fail
      refine (scname_any s _ t10 _ hs1 P10 (unhide I10).rd).mono ?_
      rintro e w11 ⟨rfl, hr, hg⟩
      have J11 := hide ((unhide I10).call hr hg)
      have hP := Hx.scName_le (s := s) (st := t10) P10
      obtain ⟨r, hE⟩ : ∃ t, t = Hx.scName s t10 := ⟨_, rfl⟩
      rw [← hE] at J11 hP ⊢
      obtain ⟨⟨v11a, v11b⟩, t11⟩ := r
      simp only at J11 hP ⊢
      have P11 : t11.pos ≤ s.size := hP
      have E11 := hide hE
      have xo : w11.cell? ⟨xb, 0, none⟩ = some (.int .i64 0) := blk_cell (unhide J11).xx 0
      have xo1 : w11.cell? ⟨xb, 1, none⟩ = some (.int .i64 0) := blk_cell (unhide J11).xx 1
      have xf := blk_free (unhide J11).xx
      clear hr hg hE hP I10
      go_wp2_with fail
      have I11 : Hid (InE s w xb _ _ #[.int .i64 (v11a : Int), .int .i64 (v11b : Int), .int .i64 0, .int .i64 0, .int .i64 0, .int .i64 (-1), .int .i64 0, .int .i64 0, .int .i64 (-1)] _ _) := ((unhide J11).setx 0 (.int .i64 (v11a : Int))).setx 1 (.int .i64 (v11b : Int))
      clear J11 xo xo1 xf
      refine (scmust_any s _ t11 _ 64 _ hs1 P11 rfl (by omega) (unhide I11).rd).mono ?_
      rintro e w12 ⟨rfl, hr, hg⟩
      have I12 := hide ((unhide I11).call hr hg)
      obtain ⟨t12, hE⟩ : ∃ t, t = Hx.scMust s 64 t11 := ⟨_, rfl⟩
      have P12 : t12.pos ≤ s.size := by rw [hE]; exact Hx.scMust_le (by omega) P11
      rw [← hE] at I12
      have E12 := hide hE
      clear hr hg hE I11
      go_wp2_with fail
      refine (scnum_any s _ t12 _ hs1 P12 (unhide I12).rd).mono ?_
      rintro e w13 ⟨rfl, hr, hg⟩
      have J13 := hide ((unhide I12).call hr hg)
      have hP := Hx.scNum_le (s := s) (st := t12) P12
      obtain ⟨r, hE⟩ : ∃ t, t = Hx.scNum s t12 := ⟨_, rfl⟩
      rw [← hE] at J13 hP ⊢
      obtain ⟨v13, t13⟩ := r
      simp only at J13 hP ⊢
      have P13 : t13.pos ≤ s.size := hP
      have E13 := hide hE
      have xo : w13.cell? ⟨xb, 2, none⟩ = some (.int .i64 0) := blk_cell (unhide J13).xx 2
      have xf := blk_free (unhide J13).xx
      clear hr hg hE hP I12
      go_wp2_with fail
      have I13 : Hid (InE s w xb _ _ #[.int .i64 (v11a : Int), .int .i64 (v11b : Int), .int .i64 (v13 : Int), .int .i64 0, .int .i64 0, .int .i64 (-1), .int .i64 0, .int .i64 0, .int .i64 (-1)] _ _) := (unhide J13).setx 2 (.int .i64 (v13 : Int))
      clear J13 xo xf
      refine (scmust_any s _ t13 _ 43 _ hs1 P13 rfl (by omega) (unhide I13).rd).mono ?_
      rintro e w14 ⟨rfl, hr, hg⟩
      have I14 := hide ((unhide I13).call hr hg)
      obtain ⟨t14, hE⟩ : ∃ t, t = Hx.scMust s 43 t13 := ⟨_, rfl⟩
      have P14 : t14.pos ≤ s.size := by rw [hE]; exact Hx.scMust_le (by omega) P13
      rw [← hE] at I14
      have E14 := hide hE
      clear hr hg hE I13
      go_wp2_with fail
      refine (scnum_any s _ t14 _ hs1 P14 (unhide I14).rd).mono ?_
      rintro e w15 ⟨rfl, hr, hg⟩
      have J15 := hide ((unhide I14).call hr hg)
      have hP := Hx.scNum_le (s := s) (st := t14) P14
      obtain ⟨r, hE⟩ : ∃ t, t = Hx.scNum s t14 := ⟨_, rfl⟩
      rw [← hE] at J15 hP ⊢
      obtain ⟨v15, t15⟩ := r
      simp only at J15 hP ⊢
      have P15 : t15.pos ≤ s.size := hP
      have E15 := hide hE
      have xo : w15.cell? ⟨xb, 3, none⟩ = some (.int .i64 0) := blk_cell (unhide J15).xx 3
      have xf := blk_free (unhide J15).xx
      clear hr hg hE hP I14
      go_wp2_with fail
      have I15 : Hid (InE s w xb _ _ #[.int .i64 (v11a : Int), .int .i64 (v11b : Int), .int .i64 (v13 : Int), .int .i64 (v15 : Int), .int .i64 0, .int .i64 (-1), .int .i64 0, .int .i64 0, .int .i64 (-1)] _ _) := (unhide J15).setx 3 (.int .i64 (v15 : Int))
      clear J15 xo xf
      refine (scmust_any s _ t15 _ 45 _ hs1 P15 rfl (by omega) (unhide I15).rd).mono ?_
      rintro e w16 ⟨rfl, hr, hg⟩
      have I16 := hide ((unhide I15).call hr hg)
      obtain ⟨t16, hE⟩ : ∃ t, t = Hx.scMust s 45 t15 := ⟨_, rfl⟩
      have P16 : t16.pos ≤ s.size := by rw [hE]; exact Hx.scMust_le (by omega) P15
      rw [← hE] at I16
      have E16 := hide hE
      clear hr hg hE I15
      go_wp2_with fail
      refine (scnum_any s _ t16 _ hs1 P16 (unhide I16).rd).mono ?_
      rintro e w165 ⟨rfl, hr, hg⟩
      have J165 := hide ((unhide I16).call hr hg)
      have hP := Hx.scNum_le (s := s) (st := t16) P16
      obtain ⟨r, hE⟩ : ∃ t, t = Hx.scNum s t16 := ⟨_, rfl⟩
      rw [← hE] at J165 hP ⊢
      obtain ⟨v165, t165⟩ := r
      simp only at J165 hP ⊢
      have P165 : t165.pos ≤ s.size := hP
      have E165 := hide hE
      have xo : w165.cell? ⟨xb, 4, none⟩ = some (.int .i64 0) := blk_cell (unhide J165).xx 4
      have xf := blk_free (unhide J165).xx
      clear hr hg hE hP I16
      go_wp2_with fail
      have I165 : Hid (InE s w xb _ _ #[.int .i64 (v11a : Int), .int .i64 (v11b : Int), .int .i64 (v13 : Int), .int .i64 (v15 : Int), .int .i64 (v165 : Int), .int .i64 (-1), .int .i64 0, .int .i64 0, .int .i64 (-1)] _ _) := (unhide J165).setx 4 (.int .i64 (v165 : Int))
      clear J165 xo xf
      by_cases hB : Hx.byteAt s t165.pos = 60
      · skip
        have E17 : Hid (Hx.scIs s 60 t165 = (true, ⟨t165.pos + 1, t165.bad⟩)) := by show _ = _; unfold Hx.scIs; rw [if_pos hB]
        have hP := Hx.scIs_le (s := s) (c := 60) (st := t165) (by omega) P165
        have HC := hide (scis_any s _ t165 60 60 _ hs1 P165 rfl (by omega) (unhide I165).rd)
        rw [unhide E17] at HC hP
        refine (unhide HC).mono ?_
        rintro e w17 ⟨rfl, hr, hg⟩
        have I17 := hide ((unhide I165).call hr hg)
        obtain ⟨t17, hE⟩ : ∃ t, t = (⟨t165.pos + 1, t165.bad⟩ : Hx.St) := ⟨_, rfl⟩
        simp only at I17 hP
        rw [← hE] at I17 E17
        have P17 : t17.pos ≤ s.size := by rw [hE]; exact hP
        clear hr hg hE hP I165 HC hB
        go_wp2_with fail
        refine (scnum_any s _ t17 _ hs1 P17 (unhide I17).rd).mono ?_
        rintro e w18 ⟨rfl, hr, hg⟩
        have J18 := hide ((unhide I17).call hr hg)
        have hP := Hx.scNum_le (s := s) (st := t17) P17
        obtain ⟨r, hE⟩ : ∃ t, t = Hx.scNum s t17 := ⟨_, rfl⟩
        rw [← hE] at J18 hP ⊢
        obtain ⟨v18, t18⟩ := r
        simp only at J18 hP ⊢
        have P18 : t18.pos ≤ s.size := hP
        have E18 := hide hE
        have xo : w18.cell? ⟨xb, 5, none⟩ = some (.int .i64 (-1)) := blk_cell (unhide J18).xx 5
        have xf := blk_free (unhide J18).xx
        clear hr hg hE hP I17
        go_wp2_with fail
        have I18 : Hid (InE s w xb _ _ #[.int .i64 (v11a : Int), .int .i64 (v11b : Int), .int .i64 (v13 : Int), .int .i64 (v15 : Int), .int .i64 (v165 : Int), .int .i64 (v18 : Int), .int .i64 0, .int .i64 0, .int .i64 (-1)] _ _) := (unhide J18).setx 5 (.int .i64 (v18 : Int))
        clear J18 xo xf
        refine (scmust_any s _ t18 _ 58 _ hs1 P18 rfl (by omega) (unhide I18).rd).mono ?_
        rintro e w19 ⟨rfl, hr, hg⟩
        have I19 := hide ((unhide I18).call hr hg)
        obtain ⟨t19, hE⟩ : ∃ t, t = Hx.scMust s 58 t18 := ⟨_, rfl⟩
        have P19 : t19.pos ≤ s.size := by rw [hE]; exact Hx.scMust_le (by omega) P18
        rw [← hE] at I19
        have E19 := hide hE
        clear hr hg hE I18
        go_wp2_with fail
        refine (scnum_any s _ t19 _ hs1 P19 (unhide I19).rd).mono ?_
        rintro e w20 ⟨rfl, hr, hg⟩
        have J20 := hide ((unhide I19).call hr hg)
        have hP := Hx.scNum_le (s := s) (st := t19) P19
        obtain ⟨r, hE⟩ : ∃ t, t = Hx.scNum s t19 := ⟨_, rfl⟩
        rw [← hE] at J20 hP ⊢
        obtain ⟨v20, t20⟩ := r
        simp only at J20 hP ⊢
        have P20 : t20.pos ≤ s.size := hP
        have E20 := hide hE
        have xo : w20.cell? ⟨xb, 6, none⟩ = some (.int .i64 0) := blk_cell (unhide J20).xx 6
        have xf := blk_free (unhide J20).xx
        clear hr hg hE hP I19
        go_wp2_with fail
        have I20 : Hid (InE s w xb _ _ #[.int .i64 (v11a : Int), .int .i64 (v11b : Int), .int .i64 (v13 : Int), .int .i64 (v15 : Int), .int .i64 (v165 : Int), .int .i64 (v18 : Int), .int .i64 (v20 : Int), .int .i64 0, .int .i64 (-1)] _ _) := (unhide J20).setx 6 (.int .i64 (v20 : Int))
        clear J20 xo xf
        refine (scmust_any s _ t20 _ 45 _ hs1 P20 rfl (by omega) (unhide I20).rd).mono ?_
        rintro e w21 ⟨rfl, hr, hg⟩
        have I21 := hide ((unhide I20).call hr hg)
        obtain ⟨t21, hE⟩ : ∃ t, t = Hx.scMust s 45 t20 := ⟨_, rfl⟩
        have P21 : t21.pos ≤ s.size := by rw [hE]; exact Hx.scMust_le (by omega) P20
        rw [← hE] at I21
        have E21 := hide hE
        clear hr hg hE I20
        go_wp2_with fail
        refine (scnum_any s _ t21 _ hs1 P21 (unhide I21).rd).mono ?_
        rintro e w22 ⟨rfl, hr, hg⟩
        have J22 := hide ((unhide I21).call hr hg)
        have hP := Hx.scNum_le (s := s) (st := t21) P21
        obtain ⟨r, hE⟩ : ∃ t, t = Hx.scNum s t21 := ⟨_, rfl⟩
        rw [← hE] at J22 hP ⊢
        obtain ⟨v22, t22⟩ := r
        simp only at J22 hP ⊢
        have P22 : t22.pos ≤ s.size := hP
        have E22 := hide hE
        have xo : w22.cell? ⟨xb, 7, none⟩ = some (.int .i64 0) := blk_cell (unhide J22).xx 7
        have xf := blk_free (unhide J22).xx
        clear hr hg hE hP I21
        go_wp2_with fail
        have I22 : Hid (InE s w xb _ _ #[.int .i64 (v11a : Int), .int .i64 (v11b : Int), .int .i64 (v13 : Int), .int .i64 (v15 : Int), .int .i64 (v165 : Int), .int .i64 (v18 : Int), .int .i64 (v20 : Int), .int .i64 (v22 : Int), .int .i64 (-1)] _ _) := (unhide J22).setx 7 (.int .i64 (v22 : Int))
        clear J22 xo xf
        by_cases hB : Hx.byteAt s t22.pos = 62
        · skip
          have E24 : Hid (Hx.scIs s 62 t22 = (true, ⟨t22.pos + 1, t22.bad⟩)) := by show _ = _; unfold Hx.scIs; rw [if_pos hB]
          have hP := Hx.scIs_le (s := s) (c := 62) (st := t22) (by omega) P22
          have HC := hide (scis_any s _ t22 62 62 _ hs1 P22 rfl (by omega) (unhide I22).rd)
          rw [unhide E24] at HC hP
          refine (unhide HC).mono ?_
          rintro e w24 ⟨rfl, hr, hg⟩
          have I24 := hide ((unhide I22).call hr hg)
          obtain ⟨t24, hE⟩ : ∃ t, t = (⟨t22.pos + 1, t22.bad⟩ : Hx.St) := ⟨_, rfl⟩
          simp only at I24 hP
          rw [← hE] at I24 E24
          have P24 : t24.pos ≤ s.size := by rw [hE]; exact hP
          clear hr hg hE hP I22 HC hB
          go_wp2_with fail
          refine (scnum_any s _ t24 _ hs1 P24 (unhide I24).rd).mono ?_
          rintro e w25 ⟨rfl, hr, hg⟩
          have J25 := hide ((unhide I24).call hr hg)
          have hP := Hx.scNum_le (s := s) (st := t24) P24
          obtain ⟨r, hE⟩ : ∃ t, t = Hx.scNum s t24 := ⟨_, rfl⟩
          rw [← hE] at J25 hP ⊢
          obtain ⟨v25, t25⟩ := r
          simp only at J25 hP ⊢
          have P25 : t25.pos ≤ s.size := hP
          have E25 := hide hE
          have xo : w25.cell? ⟨xb, 8, none⟩ = some (.int .i64 (-1)) := blk_cell (unhide J25).xx 8
          have xf := blk_free (unhide J25).xx
          clear hr hg hE hP I24
          go_upto_region 25 with fail
          have I25 : Hid (InE s w xb _ _ #[.int .i64 (v11a : Int), .int .i64 (v11b : Int), .int .i64 (v13 : Int), .int .i64 (v15 : Int), .int .i64 (v165 : Int), .int .i64 (v18 : Int), .int .i64 (v20 : Int), .int .i64 (v22 : Int), .int .i64 (v25 : Int)] _ _) := (unhide J25).setx 8 (.int .i64 (v25 : Int))
          clear J25 xo xf
          generalize w25.setCell ⟨xb, 8, none⟩ (.int .i64 (v25 : Int)) = w80 at I25 ⊢
          have hT : Hx.scStep s ⟨pos, false⟩ = (⟨v11a, v11b, v13, v15, v165, (v18 : Int), v20, v22, (v25 : Int)⟩, t25) := by simp [Hx.scStep, Hx.scRest, Hx.scInto, ← unhide E10, ← unhide E11, ← unhide E12, ← unhide E13, ← unhide E14, ← unhide E15, ← unhide E16, ← unhide E165, unhide E17, ← unhide E18, ← unhide E19, ← unhide E20, ← unhide E21, ← unhide E22, unhide E24, ← unhide E25]
          have HFIN3 : Hid (Hx.scEnts s t25 (acc ++ [⟨v11a, v11b, v13, v15, v165, (v18 : Int), v20, v22, (v25 : Int)⟩]) = Hx.scAll s) := by
            have h := unhide HFIN2
            rw [hT] at h
            exact h
          have hMT : Hx.mT s t25 < Hx.mT s ⟨pos, false⟩ := by have h := unhide HMT; rw [hT] at h; exact h
          have hGT : (t25 : Hx.St).bad = false → pos < (t25 : Hx.St).pos := by have h := unhide HGT; rw [hT] at h; exact h
          have HMT2 := hide hMT
          have HGT2 := hide hGT
          clear hT hMT hGT HFIN2
          have x0 : w80.cell? ⟨xb, 0, none⟩ = some (.int .i64 (v11a : Int)) := blk_cell (unhide I25).xx 0
          have x1 : w80.cell? ⟨xb, 1, none⟩ = some (.int .i64 (v11b : Int)) := blk_cell (unhide I25).xx 1
          have x2 : w80.cell? ⟨xb, 2, none⟩ = some (.int .i64 (v13 : Int)) := blk_cell (unhide I25).xx 2
          have x3 : w80.cell? ⟨xb, 3, none⟩ = some (.int .i64 (v15 : Int)) := blk_cell (unhide I25).xx 3
          have x4 : w80.cell? ⟨xb, 4, none⟩ = some (.int .i64 (v165 : Int)) := blk_cell (unhide I25).xx 4
          have x5 : w80.cell? ⟨xb, 5, none⟩ = some (.int .i64 (v18 : Int)) := blk_cell (unhide I25).xx 5
          have x6 : w80.cell? ⟨xb, 6, none⟩ = some (.int .i64 (v20 : Int)) := blk_cell (unhide I25).xx 6
          have x7 : w80.cell? ⟨xb, 7, none⟩ = some (.int .i64 (v22 : Int)) := blk_cell (unhide I25).xx 7
          have x8 : w80.cell? ⟨xb, 8, none⟩ = some (.int .i64 (v25 : Int)) := blk_cell (unhide I25).xx 8
          have hszw : w.heap.size + 1 ≤ w80.heap.size := Rd.lt (unhide I25).rd
          go_wp2_with (at_builtin; refine wpList_append_own _ rfl _ _ 41 rfl (w.heap.size + 1) 55 i0 (.agg #[.int .i64 0, .int .i64 0, .int .i64 0, .int .i64 0, .int .i64 0, .int .i64 0, .int .i64 0, .int .i64 0, .int .i64 0]) 9 72 Tryd.underlying41 (unhide HI) (unhide HZ0) (unhide HZ1) (unhide HZ2) rfl (by decide) _ _ _ rfl ((unhide I25).ow.alloc _) ⟨w80.heap.size, 0, none⟩ 1 1 (entCells ⟨v11a, v11b, v13, v15, v165, (v18 : Int), v20, v22, (v25 : Int)⟩) rfl rfl (news_new w80 (entCells ⟨v11a, v11b, v13, v15, v165, (v18 : Int), v20, v22, (v25 : Int)⟩) 55) (entCells_one _) (by unfold maxLen; omega) (by omega) (by simp; omega) ?_; intro v' w90 hown' hgrow' _; obtain ⟨ao3, cap3, rfl⟩ := own_form hown'; have K9 := hide ((unhide I25).app (o := .cells (entCells ⟨v11a, v11b, v13, v15, v165, (v18 : Int), v20, v22, (v25 : Int)⟩).toArray 55) hown' hgrow'); clear hown' hgrow')
          go_roundg (Hx.mT s t25)
          case measure => exact unhide HMT2
          case rel =>
            refine ⟨t25, acc ++ [⟨v11a, v11b, v13, v15, v165, (v18 : Int), v20, v22, (v25 : Int)⟩], P25, rfl, by rw [List.length_append]; show acc.length + 1 ≤ s.size + 1; omega, fun hb => ?_, (unhide K9).1, (unhide K9).2.1, (unhide K9).2.2, unhide HFIN3⟩
            have := unhide HGT2 hb
            rw [List.length_append]; show acc.length + 1 ≤ _; omega
        · skip
          have E24 : Hid (Hx.scIs s 62 t22 = (false, t22)) := by show _ = _; unfold Hx.scIs; rw [if_neg hB]
          have HC := hide (scis_any s _ t22 62 62 _ hs1 P22 rfl (by omega) (unhide I22).rd)
          rw [unhide E24] at HC
          refine (unhide HC).mono ?_
          rintro e w24 ⟨rfl, hr, hg⟩
          have I24 := hide ((unhide I22).call hr hg)
          simp only at I24
          clear hr hg I22 HC hB
          go_upto_region 25 with fail
          have hT : Hx.scStep s ⟨pos, false⟩ = (⟨v11a, v11b, v13, v15, v165, (v18 : Int), v20, v22, -1⟩, t22) := by simp [Hx.scStep, Hx.scRest, Hx.scInto, ← unhide E10, ← unhide E11, ← unhide E12, ← unhide E13, ← unhide E14, ← unhide E15, ← unhide E16, ← unhide E165, unhide E17, ← unhide E18, ← unhide E19, ← unhide E20, ← unhide E21, ← unhide E22, unhide E24]
          have HFIN3 : Hid (Hx.scEnts s t22 (acc ++ [⟨v11a, v11b, v13, v15, v165, (v18 : Int), v20, v22, -1⟩]) = Hx.scAll s) := by
            have h := unhide HFIN2
            rw [hT] at h
            exact h
          have hMT : Hx.mT s t22 < Hx.mT s ⟨pos, false⟩ := by have h := unhide HMT; rw [hT] at h; exact h
          have hGT : (t22 : Hx.St).bad = false → pos < (t22 : Hx.St).pos := by have h := unhide HGT; rw [hT] at h; exact h
          have HMT2 := hide hMT
          have HGT2 := hide hGT
          clear hT hMT hGT HFIN2
          have x0 : w24.cell? ⟨xb, 0, none⟩ = some (.int .i64 (v11a : Int)) := blk_cell (unhide I24).xx 0
          have x1 : w24.cell? ⟨xb, 1, none⟩ = some (.int .i64 (v11b : Int)) := blk_cell (unhide I24).xx 1
          have x2 : w24.cell? ⟨xb, 2, none⟩ = some (.int .i64 (v13 : Int)) := blk_cell (unhide I24).xx 2
          have x3 : w24.cell? ⟨xb, 3, none⟩ = some (.int .i64 (v15 : Int)) := blk_cell (unhide I24).xx 3
          have x4 : w24.cell? ⟨xb, 4, none⟩ = some (.int .i64 (v165 : Int)) := blk_cell (unhide I24).xx 4
          have x5 : w24.cell? ⟨xb, 5, none⟩ = some (.int .i64 (v18 : Int)) := blk_cell (unhide I24).xx 5
          have x6 : w24.cell? ⟨xb, 6, none⟩ = some (.int .i64 (v20 : Int)) := blk_cell (unhide I24).xx 6
          have x7 : w24.cell? ⟨xb, 7, none⟩ = some (.int .i64 (v22 : Int)) := blk_cell (unhide I24).xx 7
          have x8 : w24.cell? ⟨xb, 8, none⟩ = some (.int .i64 (-1)) := blk_cell (unhide I24).xx 8
          have hszw : w.heap.size + 1 ≤ w24.heap.size := Rd.lt (unhide I24).rd
          go_wp2_with (at_builtin; refine wpList_append_own _ rfl _ _ 41 rfl (w.heap.size + 1) 55 i0 (.agg #[.int .i64 0, .int .i64 0, .int .i64 0, .int .i64 0, .int .i64 0, .int .i64 0, .int .i64 0, .int .i64 0, .int .i64 0]) 9 72 Tryd.underlying41 (unhide HI) (unhide HZ0) (unhide HZ1) (unhide HZ2) rfl (by decide) _ _ _ rfl ((unhide I24).ow.alloc _) ⟨w24.heap.size, 0, none⟩ 1 1 (entCells ⟨v11a, v11b, v13, v15, v165, (v18 : Int), v20, v22, -1⟩) rfl rfl (news_new w24 (entCells ⟨v11a, v11b, v13, v15, v165, (v18 : Int), v20, v22, -1⟩) 55) (entCells_one _) (by unfold maxLen; omega) (by omega) (by simp; omega) ?_; intro v' w90 hown' hgrow' _; obtain ⟨ao3, cap3, rfl⟩ := own_form hown'; have K9 := hide ((unhide I24).app (o := .cells (entCells ⟨v11a, v11b, v13, v15, v165, (v18 : Int), v20, v22, -1⟩).toArray 55) hown' hgrow'); clear hown' hgrow')
          go_roundg (Hx.mT s t22)
          case measure => exact unhide HMT2
          case rel =>
            refine ⟨t22, acc ++ [⟨v11a, v11b, v13, v15, v165, (v18 : Int), v20, v22, -1⟩], P22, rfl, by rw [List.length_append]; show acc.length + 1 ≤ s.size + 1; omega, fun hb => ?_, (unhide K9).1, (unhide K9).2.1, (unhide K9).2.2, unhide HFIN3⟩
            have := unhide HGT2 hb
            rw [List.length_append]; show acc.length + 1 ≤ _; omega
      · skip
        have E17 : Hid (Hx.scIs s 60 t165 = (false, t165)) := by show _ = _; unfold Hx.scIs; rw [if_neg hB]
        have HC := hide (scis_any s _ t165 60 60 _ hs1 P165 rfl (by omega) (unhide I165).rd)
        rw [unhide E17] at HC
        refine (unhide HC).mono ?_
        rintro e w17 ⟨rfl, hr, hg⟩
        have I17 := hide ((unhide I165).call hr hg)
        simp only at I17
        clear hr hg I165 HC hB
        go_wp2_with fail
        by_cases hB : Hx.byteAt s t165.pos = 62
        · skip
          have E24 : Hid (Hx.scIs s 62 t165 = (true, ⟨t165.pos + 1, t165.bad⟩)) := by show _ = _; unfold Hx.scIs; rw [if_pos hB]
          have hP := Hx.scIs_le (s := s) (c := 62) (st := t165) (by omega) P165
          have HC := hide (scis_any s _ t165 62 62 _ hs1 P165 rfl (by omega) (unhide I17).rd)
          rw [unhide E24] at HC hP
          refine (unhide HC).mono ?_
          rintro e w24 ⟨rfl, hr, hg⟩
          have I24 := hide ((unhide I17).call hr hg)
          obtain ⟨t24, hE⟩ : ∃ t, t = (⟨t165.pos + 1, t165.bad⟩ : Hx.St) := ⟨_, rfl⟩
          simp only at I24 hP
          rw [← hE] at I24 E24
          have P24 : t24.pos ≤ s.size := by rw [hE]; exact hP
          clear hr hg hE hP I17 HC hB
          go_wp2_with fail
          refine (scnum_any s _ t24 _ hs1 P24 (unhide I24).rd).mono ?_
          rintro e w25 ⟨rfl, hr, hg⟩
          have J25 := hide ((unhide I24).call hr hg)
          have hP := Hx.scNum_le (s := s) (st := t24) P24
          obtain ⟨r, hE⟩ : ∃ t, t = Hx.scNum s t24 := ⟨_, rfl⟩
          rw [← hE] at J25 hP ⊢
          obtain ⟨v25, t25⟩ := r
          simp only at J25 hP ⊢
          have P25 : t25.pos ≤ s.size := hP
          have E25 := hide hE
          have xo : w25.cell? ⟨xb, 8, none⟩ = some (.int .i64 (-1)) := blk_cell (unhide J25).xx 8
          have xf := blk_free (unhide J25).xx
          clear hr hg hE hP I24
          go_upto_region 25 with fail
          have I25 : Hid (InE s w xb _ _ #[.int .i64 (v11a : Int), .int .i64 (v11b : Int), .int .i64 (v13 : Int), .int .i64 (v15 : Int), .int .i64 (v165 : Int), .int .i64 (-1), .int .i64 0, .int .i64 0, .int .i64 (v25 : Int)] _ _) := (unhide J25).setx 8 (.int .i64 (v25 : Int))
          clear J25 xo xf
          generalize w25.setCell ⟨xb, 8, none⟩ (.int .i64 (v25 : Int)) = w80 at I25 ⊢
          have hT : Hx.scStep s ⟨pos, false⟩ = (⟨v11a, v11b, v13, v15, v165, -1, 0, 0, (v25 : Int)⟩, t25) := by simp [Hx.scStep, Hx.scRest, Hx.scInto, ← unhide E10, ← unhide E11, ← unhide E12, ← unhide E13, ← unhide E14, ← unhide E15, ← unhide E16, ← unhide E165, unhide E17, unhide E24, ← unhide E25]
          have HFIN3 : Hid (Hx.scEnts s t25 (acc ++ [⟨v11a, v11b, v13, v15, v165, -1, 0, 0, (v25 : Int)⟩]) = Hx.scAll s) := by
            have h := unhide HFIN2
            rw [hT] at h
            exact h
          have hMT : Hx.mT s t25 < Hx.mT s ⟨pos, false⟩ := by have h := unhide HMT; rw [hT] at h; exact h
          have hGT : (t25 : Hx.St).bad = false → pos < (t25 : Hx.St).pos := by have h := unhide HGT; rw [hT] at h; exact h
          have HMT2 := hide hMT
          have HGT2 := hide hGT
          clear hT hMT hGT HFIN2
          have x0 : w80.cell? ⟨xb, 0, none⟩ = some (.int .i64 (v11a : Int)) := blk_cell (unhide I25).xx 0
          have x1 : w80.cell? ⟨xb, 1, none⟩ = some (.int .i64 (v11b : Int)) := blk_cell (unhide I25).xx 1
          have x2 : w80.cell? ⟨xb, 2, none⟩ = some (.int .i64 (v13 : Int)) := blk_cell (unhide I25).xx 2
          have x3 : w80.cell? ⟨xb, 3, none⟩ = some (.int .i64 (v15 : Int)) := blk_cell (unhide I25).xx 3
          have x4 : w80.cell? ⟨xb, 4, none⟩ = some (.int .i64 (v165 : Int)) := blk_cell (unhide I25).xx 4
          have x5 : w80.cell? ⟨xb, 5, none⟩ = some (.int .i64 (-1)) := blk_cell (unhide I25).xx 5
          have x6 : w80.cell? ⟨xb, 6, none⟩ = some (.int .i64 0) := blk_cell (unhide I25).xx 6
          have x7 : w80.cell? ⟨xb, 7, none⟩ = some (.int .i64 0) := blk_cell (unhide I25).xx 7
          have x8 : w80.cell? ⟨xb, 8, none⟩ = some (.int .i64 (v25 : Int)) := blk_cell (unhide I25).xx 8
          have hszw : w.heap.size + 1 ≤ w80.heap.size := Rd.lt (unhide I25).rd
          go_wp2_with (at_builtin; refine wpList_append_own _ rfl _ _ 41 rfl (w.heap.size + 1) 55 i0 (.agg #[.int .i64 0, .int .i64 0, .int .i64 0, .int .i64 0, .int .i64 0, .int .i64 0, .int .i64 0, .int .i64 0, .int .i64 0]) 9 72 Tryd.underlying41 (unhide HI) (unhide HZ0) (unhide HZ1) (unhide HZ2) rfl (by decide) _ _ _ rfl ((unhide I25).ow.alloc _) ⟨w80.heap.size, 0, none⟩ 1 1 (entCells ⟨v11a, v11b, v13, v15, v165, -1, 0, 0, (v25 : Int)⟩) rfl rfl (news_new w80 (entCells ⟨v11a, v11b, v13, v15, v165, -1, 0, 0, (v25 : Int)⟩) 55) (entCells_one _) (by unfold maxLen; omega) (by omega) (by simp; omega) ?_; intro v' w90 hown' hgrow' _; obtain ⟨ao3, cap3, rfl⟩ := own_form hown'; have K9 := hide ((unhide I25).app (o := .cells (entCells ⟨v11a, v11b, v13, v15, v165, -1, 0, 0, (v25 : Int)⟩).toArray 55) hown' hgrow'); clear hown' hgrow')
          go_roundg (Hx.mT s t25)
          case measure => exact unhide HMT2
          case rel =>
            refine ⟨t25, acc ++ [⟨v11a, v11b, v13, v15, v165, -1, 0, 0, (v25 : Int)⟩], P25, rfl, by rw [List.length_append]; show acc.length + 1 ≤ s.size + 1; omega, fun hb => ?_, (unhide K9).1, (unhide K9).2.1, (unhide K9).2.2, unhide HFIN3⟩
            have := unhide HGT2 hb
            rw [List.length_append]; show acc.length + 1 ≤ _; omega
        · skip
          have E24 : Hid (Hx.scIs s 62 t165 = (false, t165)) := by show _ = _; unfold Hx.scIs; rw [if_neg hB]
          have HC := hide (scis_any s _ t165 62 62 _ hs1 P165 rfl (by omega) (unhide I17).rd)
          rw [unhide E24] at HC
          refine (unhide HC).mono ?_
          rintro e w24 ⟨rfl, hr, hg⟩
          have I24 := hide ((unhide I17).call hr hg)
          simp only at I24
          clear hr hg I17 HC hB
          go_upto_region 25 with fail
          have hT : Hx.scStep s ⟨pos, false⟩ = (⟨v11a, v11b, v13, v15, v165, -1, 0, 0, -1⟩, t165) := by simp [Hx.scStep, Hx.scRest, Hx.scInto, ← unhide E10, ← unhide E11, ← unhide E12, ← unhide E13, ← unhide E14, ← unhide E15, ← unhide E16, ← unhide E165, unhide E17, unhide E24]
          have HFIN3 : Hid (Hx.scEnts s t165 (acc ++ [⟨v11a, v11b, v13, v15, v165, -1, 0, 0, -1⟩]) = Hx.scAll s) := by
            have h := unhide HFIN2
            rw [hT] at h
            exact h
          have hMT : Hx.mT s t165 < Hx.mT s ⟨pos, false⟩ := by have h := unhide HMT; rw [hT] at h; exact h
          have hGT : (t165 : Hx.St).bad = false → pos < (t165 : Hx.St).pos := by have h := unhide HGT; rw [hT] at h; exact h
          have HMT2 := hide hMT
          have HGT2 := hide hGT
          clear hT hMT hGT HFIN2
          have x0 : w24.cell? ⟨xb, 0, none⟩ = some (.int .i64 (v11a : Int)) := blk_cell (unhide I24).xx 0
          have x1 : w24.cell? ⟨xb, 1, none⟩ = some (.int .i64 (v11b : Int)) := blk_cell (unhide I24).xx 1
          have x2 : w24.cell? ⟨xb, 2, none⟩ = some (.int .i64 (v13 : Int)) := blk_cell (unhide I24).xx 2
          have x3 : w24.cell? ⟨xb, 3, none⟩ = some (.int .i64 (v15 : Int)) := blk_cell (unhide I24).xx 3
          have x4 : w24.cell? ⟨xb, 4, none⟩ = some (.int .i64 (v165 : Int)) := blk_cell (unhide I24).xx 4
          have x5 : w24.cell? ⟨xb, 5, none⟩ = some (.int .i64 (-1)) := blk_cell (unhide I24).xx 5
          have x6 : w24.cell? ⟨xb, 6, none⟩ = some (.int .i64 0) := blk_cell (unhide I24).xx 6
          have x7 : w24.cell? ⟨xb, 7, none⟩ = some (.int .i64 0) := blk_cell (unhide I24).xx 7
          have x8 : w24.cell? ⟨xb, 8, none⟩ = some (.int .i64 (-1)) := blk_cell (unhide I24).xx 8
          have hszw : w.heap.size + 1 ≤ w24.heap.size := Rd.lt (unhide I24).rd
          go_wp2_with (at_builtin; refine wpList_append_own _ rfl _ _ 41 rfl (w.heap.size + 1) 55 i0 (.agg #[.int .i64 0, .int .i64 0, .int .i64 0, .int .i64 0, .int .i64 0, .int .i64 0, .int .i64 0, .int .i64 0, .int .i64 0]) 9 72 Tryd.underlying41 (unhide HI) (unhide HZ0) (unhide HZ1) (unhide HZ2) rfl (by decide) _ _ _ rfl ((unhide I24).ow.alloc _) ⟨w24.heap.size, 0, none⟩ 1 1 (entCells ⟨v11a, v11b, v13, v15, v165, -1, 0, 0, -1⟩) rfl rfl (news_new w24 (entCells ⟨v11a, v11b, v13, v15, v165, -1, 0, 0, -1⟩) 55) (entCells_one _) (by unfold maxLen; omega) (by omega) (by simp; omega) ?_; intro v' w90 hown' hgrow' _; obtain ⟨ao3, cap3, rfl⟩ := own_form hown'; have K9 := hide ((unhide I24).app (o := .cells (entCells ⟨v11a, v11b, v13, v15, v165, -1, 0, 0, -1⟩).toArray 55) hown' hgrow'); clear hown' hgrow')
          go_roundg (Hx.mT s t165)
          case measure => exact unhide HMT2
          case rel =>
            refine ⟨t165, acc ++ [⟨v11a, v11b, v13, v15, v165, -1, 0, 0, -1⟩], P165, rfl, by rw [List.length_append]; show acc.length + 1 ≤ s.size + 1; omega, fun hb => ?_, (unhide K9).1, (unhide K9).2.1, (unhide K9).2.2, unhide HFIN3⟩
            have := unhide HGT2 hb
            rw [List.length_append]; show acc.length + 1 ≤ _; omega
    · have HEND := hide ((Hx.scEnts_end (acc := acc) hgo).symm.trans (unhide HFIN))
      obtain ⟨pos, bad⟩ := st
      simp only at hgo c1 c2 hpos hacc2
      cases bad
      · have hge : ¬ (pos : Int) < (s.size : Int) := by simp at hgo; omega
        clear hgo HFIN
        go_wp2_with fail
        go_quiet (fail)
        go_wp2_with fail
        go_returns
        rw [← unhide HEND, ← unhide HJ]
        exact ⟨below_drewN (unhide HBE) _, _, rfl, (unhide HOWN).kept (grown_drewN _ _ (some 0)) (own_ne (unhide HOWN) (by omega)), by show acc.length ≤ 1001; omega⟩
      · clear hgo HFIN
        go_wp2_with fail
        go_quiet (fail)
        go_wp2_with fail
        go_returns
        rw [← unhide HEND, ← unhide HJ]
        exact ⟨below_drewN (unhide HBE) _, _, rfl, (unhide HOWN).kept (grown_drewN _ _ (some 0)) (own_ne (unhide HOWN) (by omega)), by show acc.length ≤ 1001; omega⟩

end Go.Proofs.YtppcnlkhdgmaiaaDoor
