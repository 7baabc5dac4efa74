/- What the program's Run answers. What the program's Run answers. What the law does at a step that is a Run. What the cards of laws that run the machine share: the tables of bytes, of outcomes and of powers of ten, as a row lists them. The plain mathematics of how a table is scanned: where the program's reader finds a table, the scan finds the same. No program is named here. What a Scan's small calls do: is, must, name, number; over a Scan that lies in one block of memory. -/
import Derived.Test.YtppcnlkhdgmaiaaDoorCRmF
import Derived.Test.YtppcnlkhdgmaiaaDoorCRmG
import Derived.Test.YtppcnlkhdgmaiaaDoorCRrB
import Derived.Test.YtppcnlkhdgmaiaaDoorCRrC
import Derived.Test.YtppcnlkhdgmaiaaDoorCPg
import Derived.Test.YtppcnlkhdgmaiaaDoorCRtB
import Derived.Test.YtppcnlkhdgmaiaaDoorCRdD
import Derived.Deep.LoopGhost
import Derived.IntWalk
import Derived.Handy
namespace Go.Proofs.YtppcnlkhdgmaiaaDoor
open Go.RowKit

theorem own_block_lt {w : World} {base : Nat} {e : TypeId} {size : Nat} {v : Value} {n : Nat} {xs : List Value} (h : w.ownsRow base e size v n xs) {b : Nat} (hb : w.heap.size ≤ b) : v.ownBlock = none ∨ v.ownBlock ≠ some b := by
  cases ho : v.ownBlock with
  | none => exact Or.inl rfl
  | some k =>
    have := (h.lt k ho).2
    exact Or.inr (fun e => by cases e; omega)

/-- The machine as Run makes it. -/
theorem start_mem (w : World) (J : Nat) (tv cv kv : Value) (l : List Hx.TStp) (clock takes : List Nat) (ht : w.ownsRow 0 153 11 tv l.length (ptsCells l)) (hc : w.ownsRow 0 3 1 cv clock.length (ints (nats clock))) (hk : w.ownsRow 0 3 1 kv takes.length (ints (nats takes)))
    (hok : ∀ y ∈ l, Hx.TOk y) (hll : l.length ≤ 401) (hcl : clock.length ≤ 1000) (hkl : takes.length ≤ 1000) (hkn : ∀ n ∈ takes, n < 1000) (hj : J < 10) :
    Stat ⟨w.heap.size, J, tv, cv, kv, l, clock, takes⟩ (w.alloc (.cells #[.int .i64 (J : Int), tv, cv, kv, .int .i64 0, .int .i64 0, .bool false, .slice none 0 0, .int .i64 0, .int .i64 0, .int .i64 0, .int .i64 0] 115)) ∧
    Mem ⟨w.heap.size, J, tv, cv, kv, l, clock, takes⟩ (w.alloc (.cells #[.int .i64 (J : Int), tv, cv, kv, .int .i64 0, .int .i64 0, .bool false, .slice none 0 0, .int .i64 0, .int .i64 0, .int .i64 0, .int .i64 0] 115)) (w.alloc (.cells #[.int .i64 (J : Int), tv, cv, kv, .int .i64 0, .int .i64 0, .bool false, .slice none 0 0, .int .i64 0, .int .i64 0, .int .i64 0, .int .i64 0] 115)) Hx.startM (.slice none 0 0) (stsCells Hx.startM.sts) := by
  refine ⟨⟨by simp, ht.alloc _, own_block_lt ht (Nat.le_refl _), hc.alloc _, own_block_lt hc (Nat.le_refl _), hk.alloc _, own_block_lt hk (Nat.le_refl _), hok, hll, hcl, hkl, hkn, hj⟩, ⟨blk_new w _ _, World.ownsRow_nil _ _ _ _, World.grownBy.refl _ _⟩⟩

end Go.Proofs.YtppcnlkhdgmaiaaDoor
namespace Go.Proofs.YtppcnlkhdgmaiaaDoor
open Go.RowKit

set_option maxRecDepth 100000 in
set_option maxHeartbeats 4000000 in
theorem run_any (s t : ByteArray) (w : World) (hs : s.size ≤ maxLen) (ht : t.size ≤ maxLen) (htab : Tab w) (hon : Onm w) (hp : P10 w) :
    Calls Tryd.prog 27 #[.string s, .string t] w fun e w' => e = .returned (.tuple #[.string ⟨(Hx.refRunF s t).1.toArray⟩, .int .i64 (Hx.refRunF s t).2]) ∧ Below w.heap.size w w' := by
  obtain ⟨FIN, hFIN⟩ : ∃ FIN, FIN = Hx.refRunF s t := ⟨_, rfl⟩
  rw [← hFIN]
  have HLK := hide (looked_any s w hs htab)
  have HTAB := hide htab
  have HON := hide hon
  have HP := hide hp
  unfold maxLen at hs ht
  clear htab hon hp
  go_enter Tryd.func27, Tryd.ntmps27
  by_cases hb1 : 400 < s.size
  · have HF : Hid (FIN = ([], 1)) := by show _ = _; rw [hFIN, Hx.refRunF, if_pos (Or.inl hb1)]
    have hbI : (400 : Int) < (s.size : Int) := by omega
    clear hFIN hb1
    go_wp2_with fail
    go_returns
    exact ⟨by rw [unhide HF]; rfl, Below.refl _ _⟩
  · have hbI : ¬ (400 : Int) < (s.size : Int) := by omega
    by_cases hb2 : 800 < t.size
    · have HF : Hid (FIN = ([], 1)) := by show _ = _; rw [hFIN, Hx.refRunF, if_pos (Or.inr hb2)]
      have hbJ : (800 : Int) < (t.size : Int) := by omega
      clear hFIN hb1 hb2
      go_wp2_with fail
      go_returns
      exact ⟨by rw [unhide HF]; rfl, Below.refl _ _⟩
    · have hbJ : ¬ (800 : Int) < (t.size : Int) := by omega
      have ht8 : t.size ≤ 800 := by omega
      have hF2 : FIN = if (Hx.lookF s).1 ≠ 0 then ([], (Hx.lookF s).1) else if Hx.scrOk t = false then ([], 10) else (Hx.refGo (Hx.lookL (Hx.scr1 t).1) (Hx.theadF s).1 (Hx.scr2 t).1 (Hx.tableF s).2 0 0 [] [0, 0, 0, 0], 0) := by rw [hFIN, Hx.refRunF, if_neg (by omega)]
      have HF2 := hide hF2
      clear hFIN hF2 hb1 hb2
      go_wp2_with fail
      refine (unhide HLK).mono ?_
      rintro e w1 ⟨hbe, ⟨hne, rfl⟩ | ⟨he, hs4, hbad, hwr, hlen, v, rfl, hown⟩⟩
      · have HF : Hid (FIN = ([], (Hx.lookF s).1)) := by show _ = _; rw [unhide HF2, if_pos hne]
        have hneb : ((Hx.lookF s).1 != 0) = true := by simpa using hne
        have HBE := hide hbe
        clear hbe hne HF2
        go_wp2_with fail
        go_returns
        exact ⟨by rw [unhide HF]; rfl, (unhide HBE).alloc (unhide HBE).size _⟩
      · have HF3 : Hid (FIN = if Hx.scrOk t = false then ([], 10) else (Hx.refGo (Hx.lookL (Hx.scr1 t).1) (Hx.theadF s).1 (Hx.scr2 t).1 (Hx.tableF s).2 0 0 [] [0, 0, 0, 0], 0)) := by show _ = _; rw [unhide HF2, if_neg (by rw [he]; exact fun h => h rfl)]
        have HRT := hide (Hx.right_of hwr)
        have hJ10 : (Hx.theadF s).1 < 10 := Hx.numF_val s 1 _
        obtain ⟨l, hl⟩ : ∃ l, l = (Hx.tableF s).2 := ⟨_, rfl⟩
        obtain ⟨J, hJ⟩ : ∃ J, J = (Hx.theadF s).1 := ⟨_, rfl⟩
        rw [← hl] at hown hlen HRT HF3
        rw [← hJ] at hJ10 HF3 ⊢
        obtain ⟨a1, c1, rfl⟩ := own_form hown
        have HOWN := hide ((own_mono hown (Nat.zero_le _)).alloc (.cells #[.int .i64 (J : Int), .slice a1 l.length c1] 103))
        have HBE := hide (belA (.cells #[.int .i64 (J : Int), .slice a1 l.length c1] 103) hbe)
        have HTB := hide (bN #[.int .i64 (J : Int), .slice a1 l.length c1] 103 (w := w1) rfl)
        clear hbe hown he hbad hwr hl hJ HF2 HLK
        go_upto_region 4 with fail
        obtain ⟨tb, htb⟩ : ∃ tb, tb = w1.heap.size := ⟨_, rfl⟩
        rw [← htb] at HTB ⊢
        clear htb
        generalize w1.alloc (.cells #[.int .i64 (J : Int), .slice a1 l.length c1] 103) = w2 at *
        go_wp2_with fail
        refine (readscript_any t w2 ht8 ((unhide HTAB).below (unhide HBE))).mono ?_
        rintro e w3 ⟨hb3, ⟨hok, rfl⟩ | ⟨hok, hl1, hl2, v1, v2, rfl, hv1, hv2⟩⟩
        · have HF : Hid (FIN = ([], 10)) := by show _ = _; rw [unhide HF3, if_pos hok]
          have HB3 := hide (blB hb3 (unhide HBE))
          clear hb3 hok HF3
          go_wp2_with fail
          go_returns
          exact ⟨by rw [unhide HF]; rfl, (unhide HB3).alloc (unhide HB3).size _⟩
        · obtain ⟨clock, hck⟩ : ∃ clock, clock = (Hx.scr1 t).1 := ⟨_, rfl⟩
          obtain ⟨takes, htk⟩ : ∃ takes, takes = (Hx.scr2 t).1 := ⟨_, rfl⟩
          have htl : ∀ v ∈ takes, v < 1000 := by rw [htk]; exact fun v hv => Hx.numbersF_lt v hv
          have hcs : clock.sum ≤ 1000000 := by
            have := sum_le_mul (Hx.scr1 t).1 (fun v hv => Hx.numbersF_lt v hv)
            rw [hck]
            omega
          rw [← hck] at hv1 hl1 HF3
          rw [← htk] at hv2 hl2 HF3
          have HF : Hid (FIN = (Hx.tellF l (Hx.machF l J clock takes), 0)) := by
            show _ = _
            rw [unhide HF3, if_neg (by rw [hok]; decide), Hx.machine_is (unhide HRT)]; rfl
          obtain ⟨ca, cc, rfl⟩ := own_form hv1
          obtain ⟨ka, kc, rfl⟩ := own_form hv2
          have HV1 := hide ((own_mono hv1 (Nat.zero_le _)).alloc (.cells #[.slice ca clock.length cc, .slice ka takes.length kc] 109))
          have HV2 := hide ((own_mono hv2 (Nat.zero_le _)).alloc (.cells #[.slice ca clock.length cc, .slice ka takes.length kc] 109))
          have HOW := hide ((own_below (unhide HOWN) hb3).alloc (.cells #[.slice ca clock.length cc, .slice ka takes.length kc] 109))
          have HB4 := hide (belA (.cells #[.slice ca clock.length cc, .slice ka takes.length kc] 109) (blB hb3 (unhide HBE)))
          have HTB4 := hide (bA (.cells #[.slice ca clock.length cc, .slice ka takes.length kc] 109) (bBl hb3 (unhide HTB)))
          have HSB := hide (bN #[.slice ca clock.length cc, .slice ka takes.length kc] 109 (w := w3) rfl)
          have HTL := hide htl
          have HCS := hide hcs
          clear hb3 hok hv1 hv2 hck htk htl hcs HF3 HOWN HBE HTB
          go_upto_region 7 with fail
          obtain ⟨sb, hsb⟩ : ∃ sb, sb = w3.heap.size := ⟨_, rfl⟩
          rw [← hsb] at HSB ⊢
          clear hsb
          generalize w3.alloc (.cells #[.slice ca clock.length cc, .slice ka takes.length kc] 109) = w4 at *
          have t0 : w4.cell? ⟨tb, 0, none⟩ = some (.int .i64 (J : Int)) := blk_cell (unhide HTB4) 0
          have t1 : w4.cell? ⟨tb, 1, none⟩ = some (.slice a1 l.length c1) := blk_cell (unhide HTB4) 1
          have s0 : w4.cell? ⟨sb, 0, none⟩ = some (.slice ca clock.length cc) := blk_cell (unhide HSB) 0
          have s1 : w4.cell? ⟨sb, 1, none⟩ = some (.slice ka takes.length kc) := blk_cell (unhide HSB) 1
          have HSM := hide (start_mem w4 J (.slice a1 l.length c1) (.slice ca clock.length cc) (.slice ka takes.length kc) l clock takes (unhide HOW) (unhide HV1) (unhide HV2) (unhide HRT).ok hlen (by omega) (by omega) (unhide HTL) hJ10)
          have HRUN := hide (mrun_any _ _ _ _ _ (unhide HSM).1 (unhide HSM).2 (start_ok l) (by show 0 + clock.sum ≤ 1000000; have hh : clock.sum ≤ 1000000 := unhide HCS; omega))
          have HLKO := hide (mach_lk (l := l) (J := J) (unhide HTL) (unhide HCS))
          go_upto_region 10 with fail
          go_wp2_with fail
          refine (unhide HRUN).mono ?_
          rintro e w6 ⟨rfl, sv, hm6⟩
          have hg6 := hm6.gr
          have HB6 : Hid (Below w.heap.size w w6) := by
            have h1 := (unhide HB4).alloc (unhide HB4).size (.cells #[.int .i64 (J : Int), .slice a1 l.length c1, .slice ca clock.length cc, .slice ka takes.length kc, .int .i64 0, .int .i64 0, .bool false, .slice none 0 0, .int .i64 0, .int .i64 0, .int .i64 0, .int .i64 0] 115)
            exact h1.grown hg6 h1.size (fun k e => by cases e; exact (unhide HB4).size)
          have HM6 := hide hm6
          clear hm6 hg6
          have HW := hide (mwrite_any _ _ w6 _ sv _ (unhide HSM).1 (unhide HM6) (unhide HLKO).lt (unhide HLKO).k (unhide HLKO).len (unhide HLKO).st ((unhide HON).below (unhide HB6)) ((unhide HP).below (unhide HB6)))
          go_wp2_with fail
          refine (unhide HW).mono ?_
          rintro e w7 ⟨rfl, hb7⟩
          have HB7 := hide (blB hb7 (unhide HB6))
          clear hb7
          go_wp2_with fail
          go_returns
          rw [unhide HF]
          exact ⟨rfl, unhide HB7⟩

end Go.Proofs.YtppcnlkhdgmaiaaDoor
namespace Go.Proofs.YtppcnlkhdgmaiaaDoor
open Go.RowKit

/-- What Run wants of memory: the two tables, and the library's powers of ten. -/
def RunE (w : World) : Prop := Tab w ∧ Onm w ∧ P10 w
theorem lasts_run : Lasts RunE := fun _ _ h hb => ⟨h.1.below hb, h.2.1.below hb, h.2.2.below hb⟩

end Go.Proofs.YtppcnlkhdgmaiaaDoor
namespace Go.Proofs.YtppcnlkhdgmaiaaDoor
open Go.ChangeShapes Go.WideShapes Go.ChangeAt Go.RowKit Go.Deep

theorem gOnm : Tryd.prog.globalNamed "hatch/hatch.outcomeNames" = some 0 := by kernel_rfl
theorem gOnmType : (Tryd.prog.globals[0]?).map (·.type) = some 151 := by kernel_rfl
theorem cellsOnm : Tryd.prog.cellsOf 151 = 12 := by kernel_rfl
theorem cellsOn1 : Tryd.prog.cellsOf 150 = 2 := by kernel_rfl
theorem cells4 : Tryd.prog.cellsOf 4 = 1 := by kernel_rfl
theorem gP10 : Tryd.prog.globalNamed "internal/strconv.uint64pow10" = some 2 := by kernel_rfl
theorem gP10Type : (Tryd.prog.globals[2]?).map (·.type) = some 198 := by kernel_rfl
theorem cellsP10 : Tryd.prog.cellsOf 198 = 20 := by kernel_rfl
theorem cellsU64 : Tryd.prog.cellsOf 185 = 1 := by kernel_rfl

/-- The table of outcomes, as the row lists it. -/
def onmData : DataW Unit := .agg ((List.range 6).map fun i => .agg [.lit (.string (Hx.outB i)), .lit (.bool (decide (2 ≤ i)))])

set_option maxRecDepth 100000 in
theorem onm_of {W : World} (h : laidMet Tryd.prog [("hatch/hatch.outcomeNames", onmData)] W) : Onm W := by
  obtain ⟨ps, ⟨g', t', cs, fuel, p, q, hg', ht', hvar, hd, _, _⟩, _⟩ := h
  obtain rfl := Option.some.inj (gOnm.symm.trans hg')
  obtain rfl := Option.some.inj (gOnmType.symm.trans ht')
  intro i hi
  cases fuel with
  | zero => simp [DataW.trod] at hd
  | succ n =>
    simp only [DataW.trod, Tryd.underlying151, cellsOnm, cellsOn1] at hd
    split at hd
    · rename_i hl
      obtain ⟨xs, hm, hx⟩ := Option.map_eq_some_iff.1 hd
      obtain ⟨b, hb, hf⟩ := Lib.mapM_at hm i i (by simp [hi])
      have hxs : xs.map (·.1) = (List.range 6).map fun i => (DataW.agg [.lit (.string (Hx.outB i)), .lit (.bool (decide (2 ≤ i)))] : DataW Unit) := by
        have := congrArg Prod.fst hx
        simpa [onmData] using this
      have hbd : b.1 = DataW.agg [.lit (.string (Hx.outB i)), .lit (.bool (decide (2 ≤ i)))] := by
        have h2 : (xs.map (·.1))[i]? = some b.1 := by simp [hb]
        rw [hxs] at h2
        simp [List.getElem?_map, List.getElem?_range hi] at h2
        exact h2.symm
      obtain ⟨ys, k, _, hye, _, hyl, hf2⟩ := DataW.trod_struct Tryd.underlying150 hf
      have g0 := hf2 0 _ rfl
      have g1 := hf2 1 _ rfl
      match ys, hyl with
      | [y0, y1], _ =>
        simp [cells9, cells4] at g0 g1
        obtain ⟨s, es, rfl, _⟩ := DataW.trod_string Tryd.underlying9 g0
        obtain ⟨b1, eb, rfl⟩ := DataW.trod_bool Tryd.underlying4 g1
        rw [hye] at hbd
        simp at hbd
        obtain ⟨h1, h2⟩ := hbd
        have c0 := World.var?_cell gOnm hvar (i * 2)
        have c1 := World.var?_cell gOnm hvar (i * 2 + 1)
        have k0 : cs.toList[i * 2]? = some (.string s) := by
          have := congrArg (·[0]?) es
          simpa [List.getElem?_take, List.getElem?_drop] using this
        have k1 : cs.toList[i * 2 + 1]? = some (.bool b1) := by
          have := congrArg (·[0]?) eb
          simpa [List.getElem?_take, List.getElem?_drop] using this
        have hs : s = ⟨(Hx.outB i).toArray⟩ := by
          cases s with
          | mk d => simp at h1; simp [← h1]
        constructor
        · rw [c0, ← hs]; simpa using k0
        · rw [c1, ← h2]; simpa using k1
    · cases hd

/-- What a row's list gives: the tables' cells. -/
theorem run_table {L : List (String × DataW Unit)} {W : World} (h0 : laidMet Tryd.prog L W)
    (e1 : L.filter (fun x => x.1 == "hatch/hatch.byteKinds") = [("hatch/hatch.byteKinds", Lib.tabData .u8 tabNums)])
    (e2 : L.filter (fun x => x.1 == "hatch/hatch.outcomeNames") = [("hatch/hatch.outcomeNames", onmData)])
    (e3 : L.filter (fun x => x.1 == "internal/strconv.uint64pow10") = [("internal/strconv.uint64pow10", Lib.tabData .u64 Lib.pow10Tab)]) : RunE W := by
  refine ⟨?_, ?_, ?_⟩
  · have h00 := h0.filter (fun x => x.1 == "hatch/hatch.byteKinds")
    rw [e1] at h00
    have h1 : Lib.TabIs Tryd.prog W "hatch/hatch.byteKinds" .u8 tabNums := Lib.tabIs_of_head (rest := []) gTab gTabType Tryd.underlying189 Tryd.underlying5 cellsU8 cells189 h00
    intro i hi
    have h2 := h1.cell gTab i (by simpa [tabNums] using hi)
    rw [tabNums_kind i hi] at h2
    exact h2
  · have h00 := h0.filter (fun x => x.1 == "hatch/hatch.outcomeNames")
    rw [e2] at h00
    exact onm_of h00
  · have h00 := h0.filter (fun x => x.1 == "internal/strconv.uint64pow10")
    rw [e3] at h00
    exact Lib.tabIs_of_head (rest := []) gP10 gP10Type Tryd.underlying198 Tryd.underlying185 cellsU64 cellsP10 h00

end Go.Proofs.YtppcnlkhdgmaiaaDoor
namespace Go.Proofs.YtppcnlkhdgmaiaaDoor
namespace Hx
def scIs (s : ByteArray) (c : Nat) (st : St) : Bool × St := if byteAt s st.pos = c then (true, ⟨st.pos + 1, st.bad⟩) else (false, st)
def scMust (s : ByteArray) (c : Nat) (st : St) : St := if byteAt s st.pos = c then ⟨st.pos + 1, st.bad⟩ else ⟨st.pos, true⟩
def scNum (s : ByteArray) (st : St) : Nat × St := ((digF s 9 st.pos 0).1, ⟨(digF s 9 st.pos 0).2, st.bad || decide ((digF s 9 st.pos 0).2 = st.pos)⟩)
/-- Is this a name? -/
def nameOk (s : ByteArray) (p : Nat) : Prop := 97 ≤ byteAt s p ∧ byteAt s p ≤ 100 ∧ 48 ≤ byteAt s (p + 1) ∧ byteAt s (p + 1) ≤ 57
instance (s : ByteArray) (p : Nat) : Decidable (nameOk s p) := by unfold nameOk; infer_instance
def scName (s : ByteArray) (st : St) : (Nat × Nat) × St :=
  if st.pos + 1 < s.size then
    if nameOk s st.pos then ((byteAt s st.pos - 97, byteAt s (st.pos + 1) - 48), ⟨st.pos + 2, st.bad⟩) else ((0, 0), ⟨st.pos + 2, true⟩)
  else ((0, 0), ⟨st.pos, true⟩)
/-- An entry, as it is scanned. -/
structure Ent where
  pl : Nat
  no : Nat
  t : Nat
  lo : Nat
  hi : Nat
  out : Int
  mn : Nat
  mx : Nat
  inn : Int
def scRest (s : ByteArray) (st : St) : (Int × Nat × Nat) × St :=
  let r := scIs s 60 st
  if r.1 then
    let o := scNum s r.2
    let a := scNum s (scMust s 58 o.2)
    let b := scNum s (scMust s 45 a.2)
    (((o.1 : Int), a.1, b.1), b.2)
  else ((-1, 0, 0), r.2)
def scInto (s : ByteArray) (st : St) : Int × St :=
  let r := scIs s 62 st
  if r.1 then (((scNum s r.2).1 : Int), (scNum s r.2).2) else (-1, r.2)
def scStep (s : ByteArray) (st : St) : Ent × St :=
  let p := scName s (scMust s 59 st)
  let t := scNum s (scMust s 64 p.2)
  let l := scNum s (scMust s 43 t.2)
  let h := scNum s (scMust s 45 l.2)
  let r := scRest s h.2
  let i := scInto s r.2
  (⟨p.1.1, p.1.2, t.1, l.1, h.1, r.1.1, r.1.2.1, r.1.2.2, i.1⟩, i.2)

theorem scIs_le {s : ByteArray} {c : Nat} {st : St} (hc : c < 256) (h : st.pos ≤ s.size) : (scIs s c st).2.pos ≤ s.size := by
  unfold scIs; split
  · rename_i g; have := byteAt_in (s := s) (i := st.pos) (by omega); show st.pos + 1 ≤ _; omega
  · exact h
theorem scMust_le {s : ByteArray} {c : Nat} {st : St} (hc : c < 256) (h : st.pos ≤ s.size) : (scMust s c st).pos ≤ s.size := by
  unfold scMust; split
  · rename_i g; have := byteAt_in (s := s) (i := st.pos) (by omega); show st.pos + 1 ≤ _; omega
  · exact h
theorem scNum_le {s : ByteArray} {st : St} (h : st.pos ≤ s.size) : (scNum s st).2.pos ≤ s.size := digF_le s 9 st.pos 0 h
theorem scName_le {s : ByteArray} {st : St} (h : st.pos ≤ s.size) : (scName s st).2.pos ≤ s.size := by
  unfold scName; split
  · split <;> (show st.pos + 2 ≤ _; omega)
  · exact h
theorem scIs_ge (s : ByteArray) (c : Nat) (st : St) : st.pos ≤ (scIs s c st).2.pos := by unfold scIs; split <;> simp
theorem scMust_ge (s : ByteArray) (c : Nat) (st : St) : st.pos ≤ (scMust s c st).pos := by unfold scMust; split <;> simp
theorem scNum_ge (s : ByteArray) (st : St) : st.pos ≤ (scNum s st).2.pos := digF_ge s 9 st.pos 0
theorem scName_ge (s : ByteArray) (st : St) : st.pos ≤ (scName s st).2.pos := by unfold scName; split <;> (try split) <;> simp
theorem scIs_bad {s : ByteArray} {c : Nat} {st : St} (h : st.bad = true) : (scIs s c st).2.bad = true := by unfold scIs; split <;> simp [h]
theorem scMust_bad {s : ByteArray} {c : Nat} {st : St} (h : st.bad = true) : (scMust s c st).bad = true := by unfold scMust; split <;> simp [h]
theorem scNum_bad {s : ByteArray} {st : St} (h : st.bad = true) : (scNum s st).2.bad = true := by simp [scNum, h]
theorem scName_bad {s : ByteArray} {st : St} (h : st.bad = true) : (scName s st).2.bad = true := by unfold scName; split <;> (try split) <;> simp [h]
theorem scRest_bad {s : ByteArray} {st : St} (h : st.bad = true) : (scRest s st).2.bad = true := by
  unfold scRest
  simp only
  split
  · exact scNum_bad (scMust_bad (scNum_bad (scMust_bad (scNum_bad (scIs_bad h)))))
  · exact scIs_bad h
theorem scInto_bad {s : ByteArray} {st : St} (h : st.bad = true) : (scInto s st).2.bad = true := by
  unfold scInto
  simp only
  split
  · exact scNum_bad (scIs_bad h)
  · exact scIs_bad h
theorem scRest_ge (s : ByteArray) (st : St) : st.pos ≤ (scRest s st).2.pos := by
  unfold scRest
  simp only
  have h := scIs_ge s 60 st
  split
  · exact Nat.le_trans h (Nat.le_trans (scNum_ge s _) (Nat.le_trans (scMust_ge s 58 _) (Nat.le_trans (scNum_ge s _) (Nat.le_trans (scMust_ge s 45 _) (scNum_ge s _)))))
  · exact h
theorem scInto_ge (s : ByteArray) (st : St) : st.pos ≤ (scInto s st).2.pos := by
  unfold scInto
  simp only
  have h := scIs_ge s 62 st
  split
  · exact Nat.le_trans h (scNum_ge s _)
  · exact h
theorem scStep_ge (s : ByteArray) (st : St) : (scMust s 59 st).pos ≤ (scStep s st).2.pos :=
  Nat.le_trans (scName_ge s _) (Nat.le_trans (scMust_ge s 64 _) (Nat.le_trans (scNum_ge s _) (Nat.le_trans (scMust_ge s 43 _) (Nat.le_trans (scNum_ge s _) (Nat.le_trans (scMust_ge s 45 _) (Nat.le_trans (scNum_ge s _) (Nat.le_trans (scRest_ge s _) (scInto_ge s _))))))))
theorem scStep_gt {s : ByteArray} {st : St} (h : (scStep s st).2.bad = false) : st.pos < (scStep s st).2.pos := by
  have hg := scStep_ge s st
  by_cases e : byteAt s st.pos = 59
  · have : scMust s 59 st = ⟨st.pos + 1, st.bad⟩ := by unfold scMust; rw [if_pos e]
    rw [this] at hg
    exact hg
  · have hb : (scMust s 59 st).bad = true := by unfold scMust; rw [if_neg e]
    have : (scStep s st).2.bad = true := scInto_bad (scRest_bad (scNum_bad (scMust_bad (scNum_bad (scMust_bad (scNum_bad (scMust_bad (scName_bad hb))))))))
    rw [h] at this; cases this
theorem scm_lt {s : ByteArray} {st : St} (h1 : st.bad = false) (h2 : st.pos < s.size) : mT s (scStep s st).2 < mT s st := by
  have e : mT s st = s.size - st.pos := by simp [mT, h1, h2]
  rw [e]
  unfold mT
  split
  · rename_i g
    have := scStep_gt g.1
    omega
  · omega
def scEnts (s : ByteArray) (st : St) (acc : List Ent) : St × List Ent :=
  if _h : st.bad = false ∧ st.pos < s.size then scEnts s (scStep s st).2 (acc ++ [(scStep s st).1]) else (st, acc)
termination_by mT s st
decreasing_by exact scm_lt _h.1 _h.2
theorem scEnts_more {s : ByteArray} {st : St} {acc : List Ent} (h1 : st.bad = false) (h2 : st.pos < s.size) : scEnts s st acc = scEnts s (scStep s st).2 (acc ++ [(scStep s st).1]) := by
  rw [scEnts, dif_pos ⟨h1, h2⟩]
theorem scEnts_end {s : ByteArray} {st : St} {acc : List Ent} (h : ¬ (st.bad = false ∧ st.pos < s.size)) : scEnts s st acc = (st, acc) := by
  rw [scEnts, dif_neg h]
def scHead (s : ByteArray) : Nat × St := scNum s (scMust s 106 ⟨0, false⟩)
def scAll (s : ByteArray) : St × List Ent := scEnts s (scHead s).2 []

/-! ### Where the program's reader finds a table the scan finds the same. -/
def isDig (s : ByteArray) (p : Nat) : Prop := 48 ≤ byteAt s p ∧ byteAt s p ≤ 57
theorem digF_same {s : ByteArray} : ∀ {m p v : Nat} (k : Nat), m ≤ k → ¬ isDig s (digF s m p v).2 → digF s k p v = digF s m p v
  | 0, p, v, k, _, h => digF_stop h
  | m + 1, p, v, 0, hk, _ => by omega
  | m + 1, p, v, k + 1, hk, h => by
    by_cases g : 48 ≤ byteAt s p ∧ byteAt s p ≤ 57
    · rw [digF_step g] at h ⊢
      rw [digF_step g]
      exact digF_same k (by omega) h
    · rw [digF_stop g, digF_stop g]
theorem digF_gt {s : ByteArray} {m p v : Nat} (h : isDig s p) : p < (digF s (m + 1) p v).2 := by
  rw [digF_step h]
  have := digF_ge s m (p + 1) (v * 10 + (byteAt s p - 48))
  omega
theorem num_sc {s : ByteArray} {m : Nat} {st : St} (hm : 1 ≤ m) (hm9 : m ≤ 9) (h : (numF s m st).2.bad = false) (hd : ¬ isDig s (numF s m st).2.pos) : scNum s st = numF s m st := by
  cases hb : st.bad
  · by_cases h0 : byteAt s st.pos = 48
    · rw [numF_zero hb h0] at hd ⊢
      have g : isDig s st.pos := ⟨by omega, by omega⟩
      have e : digF s 9 st.pos 0 = (0, st.pos + 1) := by
        rw [digF_step g, digF_stop hd, h0]
      unfold scNum
      rw [e, hb]
      simp
    · by_cases h1 : 49 ≤ byteAt s st.pos ∧ byteAt s st.pos ≤ 57
      · rw [numF_dig hb h1] at hd ⊢
        have e := digF_same (s := s) (m := m) (p := st.pos) (v := 0) 9 hm9 hd
        have g : isDig s st.pos := ⟨by omega, by omega⟩
        obtain ⟨m', rfl⟩ : ∃ m', m = m' + 1 := ⟨m - 1, by omega⟩
        have := digF_gt (s := s) (m := m') (v := 0) g
        unfold scNum
        rw [e, hb]
        have hne : ¬ (digF s (m' + 1) st.pos 0).2 = st.pos := by omega
        simp [hne]
      · rw [numF_no hb (by omega)] at h
        cases h
  · rw [numF_bad hb] at h
    rw [hb] at h; cases h
theorem one_sc {s : ByteArray} {st : St} (h : (oneF s 48 57 st).2.bad = false) (hd : ¬ isDig s (oneF s 48 57 st).2.pos) : scNum s st = oneF s 48 57 st := by
  unfold oneF at h hd ⊢
  split at h
  · cases h
  · rename_i g
    rw [if_neg g] at hd ⊢
    have gd : isDig s st.pos := ⟨by omega, by omega⟩
    have hb : st.bad = false := by
      cases hb : st.bad
      · rfl
      · exact absurd (Or.inl hb) g
    have e : digF s 9 st.pos 0 = (byteAt s st.pos - 48, st.pos + 1) := by
      rw [digF_step gd, digF_stop hd]; simp
    unfold scNum
    rw [e, hb]
    simp
theorem take_sc {s : ByteArray} {c : Nat} {st : St} (h : (takeF s c st).bad = false) : scMust s c st = takeF s c st := by
  obtain ⟨h1, h2, h3⟩ := takeF_good h
  rw [h3]
  unfold scMust
  rw [if_pos h2, h1]
theorem next_sc {s : ByteArray} {c : Nat} {st : St} (h : st.bad = false) : scIs s c st = nextF s c st := by
  unfold scIs nextF
  by_cases e : byteAt s st.pos = c
  · rw [if_pos e, if_pos ⟨h, e⟩, h]
  · rw [if_neg e, if_neg (fun g => e g.2)]
theorem take_bad {s : ByteArray} {c : Nat} {st : St} (h : (takeF s c st).bad = false) : st.bad = false := (takeF_good h).1
theorem take_byte {s : ByteArray} {c : Nat} {st : St} (h : (takeF s c st).bad = false) : byteAt s st.pos = c := (takeF_good h).2.1
theorem num_bad {s : ByteArray} {m : Nat} {st : St} (h : (numF s m st).2.bad = false) : st.bad = false := by
  cases hb : st.bad
  · rfl
  · rw [numF_bad hb] at h; rw [hb] at h; cases h
theorem one_bad {s : ByteArray} {lo hi : Nat} {st : St} (h : (oneF s lo hi st).2.bad = false) : st.bad = false := by
  cases hb : st.bad
  · rfl
  · rw [oneF_bad hb] at h; cases h
theorem nodig {s : ByteArray} {p c : Nat} (h : byteAt s p = c) (hc : c < 48 ∨ 57 < c) : ¬ isDig s p := by unfold isDig; omega
theorem name_sc {s : ByteArray} {st : St} (h : (oneF s 48 57 (oneF s 97 100 st).2).2.bad = false) :
    scName s st = (((oneF s 97 100 st).1, (oneF s 48 57 (oneF s 97 100 st).2).1), (oneF s 48 57 (oneF s 97 100 st).2).2) := by
  have h1 := one_bad h
  have g1 : ¬ (st.bad = true ∨ byteAt s st.pos < 97 ∨ 100 < byteAt s st.pos) := fun g => by
    unfold oneF at h1; rw [if_pos g] at h1; cases h1
  have e1 : oneF s 97 100 st = (byteAt s st.pos - 97, ⟨st.pos + 1, false⟩) := by unfold oneF; rw [if_neg g1]
  rw [e1] at h ⊢
  have g2 : ¬ ((⟨st.pos + 1, false⟩ : St).bad = true ∨ byteAt s (st.pos + 1) < 48 ∨ 57 < byteAt s (st.pos + 1)) := fun g => by
    unfold oneF at h; rw [if_pos g] at h; cases h
  have e2 : oneF s 48 57 ⟨st.pos + 1, false⟩ = (byteAt s (st.pos + 1) - 48, ⟨st.pos + 1 + 1, false⟩) := by unfold oneF; rw [if_neg g2]
  rw [e2]
  have hin : st.pos + 1 < s.size := byteAt_in (by omega)
  have hb : st.bad = false := by
    cases hb : st.bad
    · rfl
    · exact absurd (Or.inl hb) g1
  unfold scName
  rw [if_pos hin, if_pos ⟨by omega, by omega, by omega, by omega⟩, hb]
def entOf (y : TStp) : Ent := ⟨y.pl, y.no, y.t, y.lo, y.hi, y.out, y.mn, y.mx, y.inn⟩
theorem rest_bad {s : ByteArray} {st : St} (h : (trestF s st).2.bad = false) : st.bad = false := by
  cases hb : st.bad
  · rfl
  · have : nextF s 60 st = (false, st) := nextF_no (by simp [hb])
    simp [trestF, this, hb] at h
theorem into_bad {s : ByteArray} {st : St} (h : (tintoF s st).2.bad = false) : st.bad = false := by
  cases hb : st.bad
  · rfl
  · have : nextF s 62 st = (false, st) := nextF_no (by simp [hb])
    simp [tintoF, this, hb] at h
theorem into_sc {s : ByteArray} {st : St} (h : (tintoF s st).2.bad = false) (hd : ¬ isDig s (tintoF s st).2.pos) : scInto s st = tintoF s st ∧ ¬ isDig s st.pos := by
  have hb := into_bad h
  unfold scInto
  rw [next_sc hb]
  by_cases e : byteAt s st.pos = 62
  · have en : nextF s 62 st = (true, ⟨st.pos + 1, false⟩) := by unfold nextF; rw [if_pos ⟨hb, e⟩]
    simp only [tintoF, en, if_true] at h hd ⊢
    rw [one_sc h hd]
    exact ⟨rfl, nodig e (by omega)⟩
  · have en : nextF s 62 st = (false, st) := nextF_no (by simp [e])
    simp only [tintoF, en] at h hd ⊢
    simp at hd ⊢
    exact hd
theorem rest_sc {s : ByteArray} {st : St} (h : (trestF s st).2.bad = false) (hd : ¬ isDig s (trestF s st).2.pos) : scRest s st = (((trestF s st).1.2.1, (trestF s st).1.2.2.1, (trestF s st).1.2.2.2), (trestF s st).2) ∧ ¬ isDig s st.pos := by
  have hb := rest_bad h
  unfold scRest
  rw [next_sc hb]
  by_cases e : byteAt s st.pos = 60
  · have en : nextF s 60 st = (true, ⟨st.pos + 1, false⟩) := by unfold nextF; rw [if_pos ⟨hb, e⟩]
    simp only [trestF, en, if_true] at h hd ⊢
    have h2 := num_bad h
    have h3 := take_bad h2
    have h4 := num_bad h3
    have h5 := take_bad h4
    rw [one_sc h5 (nodig (take_byte h4) (by omega)), take_sc h4, num_sc (by omega) (by omega) h3 (nodig (take_byte h2) (by omega)), take_sc h2, num_sc (by omega) (by omega) h hd]
    exact ⟨rfl, nodig e (by omega)⟩
  · have en : nextF s 60 st = (false, st) := nextF_no (by simp [e])
    simp only [trestF, en] at h hd ⊢
    simp at hd ⊢
    exact hd
theorem step_sc {s : ByteArray} {st : St} (h : (tstepF s st).2.bad = false) (hd : ¬ isDig s (tstepF s st).2.pos) : scStep s st = (entOf (tstepF s st).1, (tstepF s st).2) := by
  have h' : (tintoF s (trestF s (numF s 3 (takeF s 45 (numF s 3 (takeF s 43 (numF s 5 (takeF s 64 (oneF s 48 57 (oneF s 97 100 (takeF s 59 st)).2).2)).2)).2)).2).2).2.bad = false := h
  obtain ⟨e9, d8⟩ := into_sc h' hd
  have h8 := into_bad h'
  obtain ⟨e8, d7⟩ := rest_sc h8 d8
  have h7 := rest_bad h8
  have h6 := num_bad h7
  have h5 := take_bad h6
  have h4 := num_bad h5
  have h3 := take_bad h4
  have h2 := num_bad h3
  have h1 := take_bad h2
  have h0 := one_bad (one_bad h1)
  have a0 := take_sc h0
  have a1 := name_sc h1
  have a2 := take_sc h2
  have a3 := num_sc (by omega) (by omega) h3 (nodig (take_byte h4) (by omega))
  have a4 := take_sc h4
  have a5 := num_sc (by omega) (by omega) h5 (nodig (take_byte h6) (by omega))
  have a6 := take_sc h6
  have a7 := num_sc (by omega) (by omega) h7 d7
  unfold scStep
  simp only [a0, a1, a2, a3, a4, a5, a6, a7, e8, e9]
  rfl
/-- Behind a step of a table that is read to its end no digit stands. -/
theorem tables_good {s : ByteArray} : ∀ (st : St) (acc : List TStp), (tablesF s st acc).1.bad = false → st.bad = false := by
  intro st acc
  induction st, acc using tablesF.induct (s := s) with
  | case1 st acc hc ih => intro _; exact hc.1
  | case2 st acc hc =>
    intro h
    rw [tablesF, dif_neg hc] at h
    exact h
theorem tables_dig {s : ByteArray} {st : St} {acc : List TStp} (h : (tablesF s st acc).1.bad = false) : ¬ isDig s st.pos := by
  by_cases hp : st.pos < s.size
  · have hb := tables_good st acc h
    rw [tablesF_more hb hp] at h
    have h1 := tables_good _ _ h
    cases hk : (takeF s 59 st).bad
    · exact nodig (take_byte hk) (by omega)
    · rw [tstepF_bad hk] at h1; cases h1
  · intro g
    have := byteAt_ge (s := s) (i := st.pos) (by omega)
    unfold isDig at g
    omega
theorem tables_sc {s : ByteArray} : ∀ (st : St) (acc : List TStp), (tablesF s st acc).1.bad = false → scEnts s st (acc.map entOf) = ((tablesF s st acc).1, (tablesF s st acc).2.map entOf) := by
  intro st acc
  induction st, acc using tablesF.induct (s := s) with
  | case1 st acc hc ih =>
    intro h
    rw [tablesF_more hc.1 hc.2] at h ⊢
    rw [scEnts_more hc.1 hc.2, step_sc (tables_good _ _ h) (tables_dig h)]
    have := ih h
    rw [List.map_append] at this
    exact this
  | case2 st acc hc =>
    intro _
    rw [tablesF_end hc, scEnts_end hc]
theorem table_sc {s : ByteArray} (h : (tableF s).1.bad = false) : scHead s = theadF s ∧ scAll s = ((tableF s).1, (tableF s).2.map entOf) := by
  have h1 : (theadF s).2.bad = false := tables_good _ _ h
  have h2 := num_bad h1
  have e : scHead s = theadF s := by
    unfold scHead theadF
    rw [take_sc h2]
    exact num_sc (by omega) (by omega) h1 (tables_dig h)
  refine ⟨e, ?_⟩
  unfold scAll
  rw [e]
  exact tables_sc _ [] h
end Hx
end Go.Proofs.YtppcnlkhdgmaiaaDoor
namespace Go.Proofs.YtppcnlkhdgmaiaaDoor
open Go.RowKit
set_option maxHeartbeats 1000000 in
theorem scis_any (s : ByteArray) (b : Nat) (st : Hx.St) (c : Int) (cn : Nat) (w : World) (hs : s.size ≤ 10000000) (hp : st.pos ≤ s.size) (hc : c = (cn : Int)) (hcn : cn < 256) (hr : Rd 95 s b st w) :
    Calls Tryd.prog 39 #[.pointer (some ⟨b, 0, none⟩), .int .u8 c] w fun e w' => e = .returned (.bool (Hx.scIs s cn st).1) ∧ Rd 95 s b (Hx.scIs s cn st).2 w' ∧ w.grownBy w' (some b) := by
  have c0 := hr.c0
  have c1 := hr.c1
  have f1 := hr.fz 1
  have HC := (show Hid (c = (cn : Int)) from hc)
  have HR := (show Hid (Rd 95 s b st w) from hr)
  clear hc hr
  obtain ⟨pos, bad⟩ := st
  simp only at c1 hp
  by_cases hlt : pos < s.size
  · by_cases he : ((s[pos]'hlt).toNat : Int) = c
    · have HF : Hid (Hx.scIs s cn ⟨pos, bad⟩ = (true, ⟨pos + 1, bad⟩)) := by
        show _ = _
        unfold Hx.scIs
        rw [if_pos (by show Hx.byteAt s pos = cn; rw [Hx.byteAt_lt hlt]; have := unhide HC; omega)]
      have hne : (((s[pos]'hlt).toNat : Int) != c) = false := by simp [he]
      have hge : decide ((s.size : Int) ≤ (pos : Int)) = false := by simp; omega
      have HE := hide he
      clear he
      go_enter Tryd.func39, Tryd.ntmps39
      go_wp2_with fail
      go_quiet (fail)
      go_wp2_with fail
      go_returns
      rw [unhide HF]
      exact ⟨rfl, Rd.set1 (Rd.drewN (unhide HR) _) (pos + 1), grown_trans (grown_drewN _ _ _) (grown_set _ _ _ _)⟩
    · have HF : Hid (Hx.scIs s cn ⟨pos, bad⟩ = (false, ⟨pos, bad⟩)) := by
        show _ = _
        unfold Hx.scIs
        rw [if_neg (by show ¬ Hx.byteAt s pos = cn; rw [Hx.byteAt_lt hlt]; have := unhide HC; omega)]
      have hne : (((s[pos]'hlt).toNat : Int) != c) = true := by simpa using he
      have hge : decide ((s.size : Int) ≤ (pos : Int)) = false := by simp; omega
      have HE := hide he
      clear he
      go_enter Tryd.func39, Tryd.ntmps39
      go_wp2_with fail
      go_quiet (fail)
      go_wp2_with fail
      go_returns
      rw [unhide HF]
      exact ⟨rfl, Rd.drewN (unhide HR) _, grown_drewN _ _ _⟩
  · have HF : Hid (Hx.scIs s cn ⟨pos, bad⟩ = (false, ⟨pos, bad⟩)) := by
      show _ = _
      unfold Hx.scIs
      rw [if_neg (by show ¬ Hx.byteAt s pos = cn; rw [Hx.byteAt_ge (by omega)]; omega)]
    have hge : decide ((s.size : Int) ≤ (pos : Int)) = true := by simp; omega
    go_enter Tryd.func39, Tryd.ntmps39
    go_wp2_with fail
    go_quiet (fail)
    go_wp2_with fail
    go_returns
    rw [unhide HF]
    exact ⟨rfl, Rd.drewN (unhide HR) _, grown_drewN _ _ _⟩

set_option maxHeartbeats 1000000 in
theorem scmust_any (s : ByteArray) (b : Nat) (st : Hx.St) (c : Int) (cn : Nat) (w : World) (hs : s.size ≤ 10000000) (hp : st.pos ≤ s.size) (hc : c = (cn : Int)) (hcn : cn < 256) (hr : Rd 95 s b st w) :
    Calls Tryd.prog 36 #[.pointer (some ⟨b, 0, none⟩), .int .u8 c] w fun e w' => e = .returned (.tuple #[]) ∧ Rd 95 s b (Hx.scMust s cn st) w' ∧ w.grownBy w' (some b) := by
  have HI := hide (scis_any s b st c cn w hs hp hc hcn hr)
  obtain ⟨r, hrr⟩ : ∃ r, r = Hx.scIs s cn st := ⟨_, rfl⟩
  rw [← hrr] at HI
  clear hr hc
  by_cases he : Hx.byteAt s st.pos = cn
  · have HF : Hid (Hx.scMust s cn st = ⟨st.pos + 1, st.bad⟩) := by show _ = _; unfold Hx.scMust; rw [if_pos he]
    obtain rfl : r = (true, ⟨st.pos + 1, st.bad⟩) := by rw [hrr]; unfold Hx.scIs; rw [if_pos he]
    clear hrr he
    go_enter Tryd.func36, Tryd.ntmps36
    go_wp2_with fail
    refine (unhide HI).mono ?_
    rintro e w1 ⟨rfl, hr1, hg1⟩
    have HR := hide hr1
    have HG := hide hg1
    clear hr1 hg1
    go_wp2_with fail
    go_end0
    rw [unhide HF]
    exact ⟨rfl, unhide HR, unhide HG⟩
  · have HF : Hid (Hx.scMust s cn st = ⟨st.pos, true⟩) := by show _ = _; unfold Hx.scMust; rw [if_neg he]
    obtain rfl : r = (false, st) := by rw [hrr]; unfold Hx.scIs; rw [if_neg he]
    clear hrr he
    go_enter Tryd.func36, Tryd.ntmps36
    go_wp2_with fail
    refine (unhide HI).mono ?_
    rintro e w1 ⟨rfl, hr1, hg1⟩
    have c2 := hr1.c2
    have f2 := hr1.fz 2
    have HR := hide hr1
    have HG := hide hg1
    clear hr1 hg1
    go_wp2_with fail
    go_end0
    rw [unhide HF]
    exact ⟨rfl, Rd.set2 (unhide HR) true, grown_trans (unhide HG) (grown_set _ _ _ _)⟩
end Go.Proofs.YtppcnlkhdgmaiaaDoor
