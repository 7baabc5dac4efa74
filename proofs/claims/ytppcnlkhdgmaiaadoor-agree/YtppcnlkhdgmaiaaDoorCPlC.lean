/- What the program's Run answers. What the program's Run answers. What the law does at a step that is a Run. What the cards of laws that run the machine share: the tables of bytes, of outcomes and of powers of ten, as a row lists them. The plain mathematics of a clock that goes on for longer: what has ended stays, what was open goes on from what was told; and that a script with a longer clock is read as such. No program is named here. The plain mathematics of texts that are put together: their bytes; two scripts of which one has the longer clock. No program is named here. What hatchkeep's cut does. hatchkeep's ran: the document's two examples of Run; what Onward answers. What hatchkeep's pick does. What nextTurns does: the turns that may stand behind what is done, the least first. -/
import Derived.Test.YtppcnlkhdgmaiaaDoorCRmF
import Derived.Test.YtppcnlkhdgmaiaaDoorCRmG
import Derived.Test.YtppcnlkhdgmaiaaDoorCRrB
import Derived.Test.YtppcnlkhdgmaiaaDoorCRrC
import Derived.Test.YtppcnlkhdgmaiaaDoorCPg
import Derived.Test.YtppcnlkhdgmaiaaDoorCRdD
import Derived.Deep.LoopGhost
import Derived.Handy
import Derived.Test.YtppcnlkhdgmaiaaDoorCPlU
import Derived.Deep.RegionHeld3
import Derived.IntWalk
namespace Go.Proofs.YtppcnlkhdgmaiaaDoor
open Go.RowKit

theorem own_block_lt {w : World} {base : Nat} {e : TypeId} {size : Nat} {v : Value} {n : Nat} {xs : List Value} (h : w.ownsRow base e size v n xs) {b : Nat} (hb : w.heap.size ≤ b) : v.ownBlock = none ∨ v.ownBlock ≠ some b := by
  cases ho : v.ownBlock with
  | none => exact Or.inl rfl
  | some k =>
    have := (h.lt k ho).2
    exact Or.inr (fun e => by cases e; omega)

/-- The machine as Run makes it. -/
theorem start_mem (w : World) (J : Nat) (tv cv kv : Value) (l : List Hx.TStp) (clock takes : List Nat) (ht : w.ownsRow 0 153 11 tv l.length (ptsCells l)) (hc : w.ownsRow 0 3 1 cv clock.length (ints (nats clock))) (hk : w.ownsRow 0 3 1 kv takes.length (ints (nats takes)))
    (hok : ∀ y ∈ l, Hx.TOk y) (hll : l.length ≤ 401) (hcl : clock.length ≤ 1000) (hkl : takes.length ≤ 1000) (hkn : ∀ n ∈ takes, n < 1000) (hj : J < 10) :
    Stat ⟨w.heap.size, J, tv, cv, kv, l, clock, takes⟩ (w.alloc (.cells #[.int .i64 (J : Int), tv, cv, kv, .int .i64 0, .int .i64 0, .bool false, .slice none 0 0, .int .i64 0, .int .i64 0, .int .i64 0, .int .i64 0] 115)) ∧
    Mem ⟨w.heap.size, J, tv, cv, kv, l, clock, takes⟩ (w.alloc (.cells #[.int .i64 (J : Int), tv, cv, kv, .int .i64 0, .int .i64 0, .bool false, .slice none 0 0, .int .i64 0, .int .i64 0, .int .i64 0, .int .i64 0] 115)) (w.alloc (.cells #[.int .i64 (J : Int), tv, cv, kv, .int .i64 0, .int .i64 0, .bool false, .slice none 0 0, .int .i64 0, .int .i64 0, .int .i64 0, .int .i64 0] 115)) Hx.startM (.slice none 0 0) (stsCells Hx.startM.sts) := by
  refine ⟨⟨by simp, ht.alloc _, own_block_lt ht (Nat.le_refl _), hc.alloc _, own_block_lt hc (Nat.le_refl _), hk.alloc _, own_block_lt hk (Nat.le_refl _), hok, hll, hcl, hkl, hkn, hj⟩, ⟨blk_new w _ _, World.ownsRow_nil _ _ _ _, World.grownBy.refl _ _⟩⟩

end Go.Proofs.YtppcnlkhdgmaiaaDoor
namespace Go.Proofs.YtppcnlkhdgmaiaaDoor
open Go.RowKit

set_option maxRecDepth 100000 in
set_option maxHeartbeats 4000000 in
theorem run_any (s t : ByteArray) (w : World) (hs : s.size ≤ maxLen) (ht : t.size ≤ maxLen) (htab : Tab w) (hon : Onm w) (hp : P10 w) :
    Calls Tryd.prog 27 #[.string s, .string t] w fun e w' => e = .returned (.tuple #[.string ⟨(Hx.refRunF s t).1.toArray⟩, .int .i64 (Hx.refRunF s t).2]) ∧ Below w.heap.size w w' := by
  obtain ⟨FIN, hFIN⟩ : ∃ FIN, FIN = Hx.refRunF s t := ⟨_, rfl⟩
  rw [← hFIN]
  have HLK := hide (looked_any s w hs htab)
  have HTAB := hide htab
  have HON := hide hon
  have HP := hide hp
  unfold maxLen at hs ht
  clear htab hon hp
  go_enter Tryd.func27, Tryd.ntmps27
  by_cases hb1 : 400 < s.size
  · have HF : Hid (FIN = ([], 1)) := by show _ = _; rw [hFIN, Hx.refRunF, if_pos (Or.inl hb1)]
    have hbI : (400 : Int) < (s.size : Int) := by omega
    clear hFIN hb1
    go_wp2_with fail
    go_returns
    exact ⟨by rw [unhide HF]; rfl, Below.refl _ _⟩
  · have hbI : ¬ (400 : Int) < (s.size : Int) := by omega
    by_cases hb2 : 800 < t.size
    · have HF : Hid (FIN = ([], 1)) := by show _ = _; rw [hFIN, Hx.refRunF, if_pos (Or.inr hb2)]
      have hbJ : (800 : Int) < (t.size : Int) := by omega
      clear hFIN hb1 hb2
      go_wp2_with fail
      go_returns
      exact ⟨by rw [unhide HF]; rfl, Below.refl _ _⟩
    · have hbJ : ¬ (800 : Int) < (t.size : Int) := by omega
      have ht8 : t.size ≤ 800 := by omega
      have hF2 : FIN = if (Hx.lookF s).1 ≠ 0 then ([], (Hx.lookF s).1) else if Hx.scrOk t = false then ([], 10) else (Hx.refGo (Hx.lookL (Hx.scr1 t).1) (Hx.theadF s).1 (Hx.scr2 t).1 (Hx.tableF s).2 0 0 [] [0, 0, 0, 0], 0) := by rw [hFIN, Hx.refRunF, if_neg (by omega)]
      have HF2 := hide hF2
      clear hFIN hF2 hb1 hb2
      go_wp2_with fail
      refine (unhide HLK).mono ?_
      rintro e w1 ⟨hbe, ⟨hne, rfl⟩ | ⟨he, hs4, hbad, hwr, hlen, v, rfl, hown⟩⟩
      · have HF : Hid (FIN = ([], (Hx.lookF s).1)) := by show _ = _; rw [unhide HF2, if_pos hne]
        have hneb : ((Hx.lookF s).1 != 0) = true := by simpa using hne
        have HBE := hide hbe
        clear hbe hne HF2
        go_wp2_with fail
        go_returns
        exact ⟨by rw [unhide HF]; rfl, (unhide HBE).alloc (unhide HBE).size _⟩
      · have HF3 : Hid (FIN = if Hx.scrOk t = false then ([], 10) else (Hx.refGo (Hx.lookL (Hx.scr1 t).1) (Hx.theadF s).1 (Hx.scr2 t).1 (Hx.tableF s).2 0 0 [] [0, 0, 0, 0], 0)) := by show _ = _; rw [unhide HF2, if_neg (by rw [he]; exact fun h => h rfl)]
        have HRT := hide (Hx.right_of hwr)
        have hJ10 : (Hx.theadF s).1 < 10 := Hx.numF_val s 1 _
        obtain ⟨l, hl⟩ : ∃ l, l = (Hx.tableF s).2 := ⟨_, rfl⟩
        obtain ⟨J, hJ⟩ : ∃ J, J = (Hx.theadF s).1 := ⟨_, rfl⟩
        rw [← hl] at hown hlen HRT HF3
        rw [← hJ] at hJ10 HF3 ⊢
        obtain ⟨a1, c1, rfl⟩ := own_form hown
        have HOWN := hide ((own_mono hown (Nat.zero_le _)).alloc (.cells #[.int .i64 (J : Int), .slice a1 l.length c1] 103))
        have HBE := hide (belA (.cells #[.int .i64 (J : Int), .slice a1 l.length c1] 103) hbe)
        have HTB := hide (bN #[.int .i64 (J : Int), .slice a1 l.length c1] 103 (w := w1) rfl)
        clear hbe hown he hbad hwr hl hJ HF2 HLK
        go_upto_region 4 with fail
        obtain ⟨tb, htb⟩ : ∃ tb, tb = w1.heap.size := ⟨_, rfl⟩
        rw [← htb] at HTB ⊢
        clear htb
        generalize w1.alloc (.cells #[.int .i64 (J : Int), .slice a1 l.length c1] 103) = w2 at *
        go_wp2_with fail
        refine (readscript_any t w2 ht8 ((unhide HTAB).below (unhide HBE))).mono ?_
        rintro e w3 ⟨hb3, ⟨hok, rfl⟩ | ⟨hok, hl1, hl2, v1, v2, rfl, hv1, hv2⟩⟩
        · have HF : Hid (FIN = ([], 10)) := by show _ = _; rw [unhide HF3, if_pos hok]
          have HB3 := hide (blB hb3 (unhide HBE))
          clear hb3 hok HF3
          go_wp2_with fail
          go_returns
          exact ⟨by rw [unhide HF]; rfl, (unhide HB3).alloc (unhide HB3).size _⟩
        · obtain ⟨clock, hck⟩ : ∃ clock, clock = (Hx.scr1 t).1 := ⟨_, rfl⟩
          obtain ⟨takes, htk⟩ : ∃ takes, takes = (Hx.scr2 t).1 := ⟨_, rfl⟩
          have htl : ∀ v ∈ takes, v < 1000 := by rw [htk]; exact fun v hv => Hx.numbersF_lt v hv
          have hcs : clock.sum ≤ 1000000 := by
            have := sum_le_mul (Hx.scr1 t).1 (fun v hv => Hx.numbersF_lt v hv)
            rw [hck]
            omega
          rw [← hck] at hv1 hl1 HF3
          rw [← htk] at hv2 hl2 HF3
          have HF : Hid (FIN = (Hx.tellF l (Hx.machF l J clock takes), 0)) := by
            show _ = _
            rw [unhide HF3, if_neg (by rw [hok]; decide), Hx.machine_is (unhide HRT)]; rfl
          obtain ⟨ca, cc, rfl⟩ := own_form hv1
          obtain ⟨ka, kc, rfl⟩ := own_form hv2
          have HV1 := hide ((own_mono hv1 (Nat.zero_le _)).alloc (.cells #[.slice ca clock.length cc, .slice ka takes.length kc] 109))
          have HV2 := hide ((own_mono hv2 (Nat.zero_le _)).alloc (.cells #[.slice ca clock.length cc, .slice ka takes.length kc] 109))
          have HOW := hide ((own_below (unhide HOWN) hb3).alloc (.cells #[.slice ca clock.length cc, .slice ka takes.length kc] 109))
          have HB4 := hide (belA (.cells #[.slice ca clock.length cc, .slice ka takes.length kc] 109) (blB hb3 (unhide HBE)))
          have HTB4 := hide (bA (.cells #[.slice ca clock.length cc, .slice ka takes.length kc] 109) (bBl hb3 (unhide HTB)))
          have HSB := hide (bN #[.slice ca clock.length cc, .slice ka takes.length kc] 109 (w := w3) rfl)
          have HTL := hide htl
          have HCS := hide hcs
          clear hb3 hok hv1 hv2 hck htk htl hcs HF3 HOWN HBE HTB
          go_upto_region 7 with fail
          obtain ⟨sb, hsb⟩ : ∃ sb, sb = w3.heap.size := ⟨_, rfl⟩
          rw [← hsb] at HSB ⊢
          clear hsb
          generalize w3.alloc (.cells #[.slice ca clock.length cc, .slice ka takes.length kc] 109) = w4 at *
          have t0 : w4.cell? ⟨tb, 0, none⟩ = some (.int .i64 (J : Int)) := blk_cell (unhide HTB4) 0
          have t1 : w4.cell? ⟨tb, 1, none⟩ = some (.slice a1 l.length c1) := blk_cell (unhide HTB4) 1
          have s0 : w4.cell? ⟨sb, 0, none⟩ = some (.slice ca clock.length cc) := blk_cell (unhide HSB) 0
          have s1 : w4.cell? ⟨sb, 1, none⟩ = some (.slice ka takes.length kc) := blk_cell (unhide HSB) 1
          have HSM := hide (start_mem w4 J (.slice a1 l.length c1) (.slice ca clock.length cc) (.slice ka takes.length kc) l clock takes (unhide HOW) (unhide HV1) (unhide HV2) (unhide HRT).ok hlen (by omega) (by omega) (unhide HTL) hJ10)
          have HRUN := hide (mrun_any _ _ _ _ _ (unhide HSM).1 (unhide HSM).2 (start_ok l) (by show 0 + clock.sum ≤ 1000000; have hh : clock.sum ≤ 1000000 := unhide HCS; omega))
          have HLKO := hide (mach_lk (l := l) (J := J) (unhide HTL) (unhide HCS))
          go_upto_region 10 with fail
          go_wp2_with fail
          refine (unhide HRUN).mono ?_
          rintro e w6 ⟨rfl, sv, hm6⟩
          have hg6 := hm6.gr
          have HB6 : Hid (Below w.heap.size w w6) := by
            have h1 := (unhide HB4).alloc (unhide HB4).size (.cells #[.int .i64 (J : Int), .slice a1 l.length c1, .slice ca clock.length cc, .slice ka takes.length kc, .int .i64 0, .int .i64 0, .bool false, .slice none 0 0, .int .i64 0, .int .i64 0, .int .i64 0, .int .i64 0] 115)
            exact h1.grown hg6 h1.size (fun k e => by cases e; exact (unhide HB4).size)
          have HM6 := hide hm6
          clear hm6 hg6
          have HW := hide (mwrite_any _ _ w6 _ sv _ (unhide HSM).1 (unhide HM6) (unhide HLKO).lt (unhide HLKO).k (unhide HLKO).len (unhide HLKO).st ((unhide HON).below (unhide HB6)) ((unhide HP).below (unhide HB6)))
          go_wp2_with fail
          refine (unhide HW).mono ?_
          rintro e w7 ⟨rfl, hb7⟩
          have HB7 := hide (blB hb7 (unhide HB6))
          clear hb7
          go_wp2_with fail
          go_returns
          rw [unhide HF]
          exact ⟨rfl, unhide HB7⟩

end Go.Proofs.YtppcnlkhdgmaiaaDoor
namespace Go.Proofs.YtppcnlkhdgmaiaaDoor
open Go.RowKit

/-- What Run wants of memory: the two tables, and the library's powers of ten. -/
def RunE (w : World) : Prop := Tab w ∧ Onm w ∧ P10 w
theorem lasts_run : Lasts RunE := fun _ _ h hb => ⟨h.1.below hb, h.2.1.below hb, h.2.2.below hb⟩

end Go.Proofs.YtppcnlkhdgmaiaaDoor
namespace Go.Proofs.YtppcnlkhdgmaiaaDoor
open Go.ChangeShapes Go.WideShapes Go.ChangeAt Go.RowKit Go.Deep

theorem gOnm : Tryd.prog.globalNamed "hatch/hatch.outcomeNames" = some 0 := by kernel_rfl
theorem gOnmType : (Tryd.prog.globals[0]?).map (·.type) = some 151 := by kernel_rfl
theorem cellsOnm : Tryd.prog.cellsOf 151 = 12 := by kernel_rfl
theorem cellsOn1 : Tryd.prog.cellsOf 150 = 2 := by kernel_rfl
theorem cells4 : Tryd.prog.cellsOf 4 = 1 := by kernel_rfl
theorem gP10 : Tryd.prog.globalNamed "internal/strconv.uint64pow10" = some 2 := by kernel_rfl
theorem gP10Type : (Tryd.prog.globals[2]?).map (·.type) = some 198 := by kernel_rfl
theorem cellsP10 : Tryd.prog.cellsOf 198 = 20 := by kernel_rfl
theorem cellsU64 : Tryd.prog.cellsOf 185 = 1 := by kernel_rfl

/-- The table of outcomes, as the row lists it. -/
def onmData : DataW Unit := .agg ((List.range 6).map fun i => .agg [.lit (.string (Hx.outB i)), .lit (.bool (decide (2 ≤ i)))])

set_option maxRecDepth 100000 in
theorem onm_of {W : World} (h : laidMet Tryd.prog [("hatch/hatch.outcomeNames", onmData)] W) : Onm W := by
  obtain ⟨ps, ⟨g', t', cs, fuel, p, q, hg', ht', hvar, hd, _, _⟩, _⟩ := h
  obtain rfl := Option.some.inj (gOnm.symm.trans hg')
  obtain rfl := Option.some.inj (gOnmType.symm.trans ht')
  intro i hi
  cases fuel with
  | zero => simp [DataW.trod] at hd
  | succ n =>
    simp only [DataW.trod, Tryd.underlying151, cellsOnm, cellsOn1] at hd
    split at hd
    · rename_i hl
      obtain ⟨xs, hm, hx⟩ := Option.map_eq_some_iff.1 hd
      obtain ⟨b, hb, hf⟩ := Lib.mapM_at hm i i (by simp [hi])
      have hxs : xs.map (·.1) = (List.range 6).map fun i => (DataW.agg [.lit (.string (Hx.outB i)), .lit (.bool (decide (2 ≤ i)))] : DataW Unit) := by
        have := congrArg Prod.fst hx
        simpa [onmData] using this
      have hbd : b.1 = DataW.agg [.lit (.string (Hx.outB i)), .lit (.bool (decide (2 ≤ i)))] := by
        have h2 : (xs.map (·.1))[i]? = some b.1 := by simp [hb]
        rw [hxs] at h2
        simp [List.getElem?_map, List.getElem?_range hi] at h2
        exact h2.symm
      obtain ⟨ys, k, _, hye, _, hyl, hf2⟩ := DataW.trod_struct Tryd.underlying150 hf
      have g0 := hf2 0 _ rfl
      have g1 := hf2 1 _ rfl
      match ys, hyl with
      | [y0, y1], _ =>
        simp [cells9, cells4] at g0 g1
        obtain ⟨s, es, rfl, _⟩ := DataW.trod_string Tryd.underlying9 g0
        obtain ⟨b1, eb, rfl⟩ := DataW.trod_bool Tryd.underlying4 g1
        rw [hye] at hbd
        simp at hbd
        obtain ⟨h1, h2⟩ := hbd
        have c0 := World.var?_cell gOnm hvar (i * 2)
        have c1 := World.var?_cell gOnm hvar (i * 2 + 1)
        have k0 : cs.toList[i * 2]? = some (.string s) := by
          have := congrArg (·[0]?) es
          simpa [List.getElem?_take, List.getElem?_drop] using this
        have k1 : cs.toList[i * 2 + 1]? = some (.bool b1) := by
          have := congrArg (·[0]?) eb
          simpa [List.getElem?_take, List.getElem?_drop] using this
        have hs : s = ⟨(Hx.outB i).toArray⟩ := by
          cases s with
          | mk d => simp at h1; simp [← h1]
        constructor
        · rw [c0, ← hs]; simpa using k0
        · rw [c1, ← h2]; simpa using k1
    · cases hd

/-- What a row's list gives: the tables' cells. -/
theorem run_table {L : List (String × DataW Unit)} {W : World} (h0 : laidMet Tryd.prog L W)
    (e1 : L.filter (fun x => x.1 == "hatch/hatch.byteKinds") = [("hatch/hatch.byteKinds", Lib.tabData .u8 tabNums)])
    (e2 : L.filter (fun x => x.1 == "hatch/hatch.outcomeNames") = [("hatch/hatch.outcomeNames", onmData)])
    (e3 : L.filter (fun x => x.1 == "internal/strconv.uint64pow10") = [("internal/strconv.uint64pow10", Lib.tabData .u64 Lib.pow10Tab)]) : RunE W := by
  refine ⟨?_, ?_, ?_⟩
  · have h00 := h0.filter (fun x => x.1 == "hatch/hatch.byteKinds")
    rw [e1] at h00
    have h1 : Lib.TabIs Tryd.prog W "hatch/hatch.byteKinds" .u8 tabNums := Lib.tabIs_of_head (rest := []) gTab gTabType Tryd.underlying189 Tryd.underlying5 cellsU8 cells189 h00
    intro i hi
    have h2 := h1.cell gTab i (by simpa [tabNums] using hi)
    rw [tabNums_kind i hi] at h2
    exact h2
  · have h00 := h0.filter (fun x => x.1 == "hatch/hatch.outcomeNames")
    rw [e2] at h00
    exact onm_of h00
  · have h00 := h0.filter (fun x => x.1 == "internal/strconv.uint64pow10")
    rw [e3] at h00
    exact Lib.tabIs_of_head (rest := []) gP10 gP10Type Tryd.underlying198 Tryd.underlying185 cellsU64 cellsP10 h00

end Go.Proofs.YtppcnlkhdgmaiaaDoor
namespace Go.Proofs.YtppcnlkhdgmaiaaDoor
namespace Hx

/-- The machine's book. -/
structure Bk (l : List TStp) (m : Ms) : Prop where
  le : m.k ≤ l.length
  free : m.work = false → m.sts.length = m.k
  busy : m.work = true → m.k < l.length ∧ ∃ pre b, m.sts = pre ++ [(b, none)] ∧ pre.length = m.k

theorem pre_begin (l : List TStp) (sts : List (Nat × Option Nat)) (x : TStp) (e : Nat × Option Nat) (hx : l[sts.length]? = some x) : evB l sts <+: evB l (sts ++ [e]) := by
  rw [evB_snoc l sts x e hx]
  split
  · rename_i h; rw [h, evB_nil]; exact List.nil_prefix
  · rw [List.append_assoc]; exact List.prefix_append _ _
theorem pre_end (l : List TStp) (pre : List (Nat × Option Nat)) (x : TStp) (now v : Nat) (hx : l[pre.length]? = some x) : evB l (pre ++ [(now, none)]) <+: evB l (pre ++ [(now, some v)]) := by
  rw [ent_open l pre x now hx, ent_shut l pre x now v hx]
  exact List.prefix_append _ _

theorem began_pre {m : Ms} {pre : List (Nat × Option Nat)} {b : Nat} (h1 : m.sts = pre ++ [(b, none)]) (h2 : pre.length = m.k) : beganM m = b := by
  have : m.sts.getD m.k (0, none) = (b, none) := by
    rw [List.getD_eq_getElem?_getD, h1, ← h2, List.getElem?_append_right (Nat.le_refl _)]
    simp
  rw [beganM, this]
theorem setd_pre {m : Ms} {pre : List (Nat × Option Nat)} {b : Nat} (h1 : m.sts = pre ++ [(b, none)]) (h2 : pre.length = m.k) (e : Nat × Option Nat) : m.sts.set m.k e = pre ++ [e] := by
  rw [h1, ← h2, List.set_append_right _ _ (Nat.le_refl _)]
  simp

theorem oneM_bk {l : List TStp} {J : Nat} {takes : List Nat} {m m' : Ms} {r : Option Nat} (hb : Bk l m) (h : oneM l J takes m = (r, m')) : evB l m.sts <+: evB l m'.sts ∧ (r = none ∨ r = some 0 → Bk l m') := by
  unfold oneM at h
  cases hx : l[m.k]? with
  | none => rw [hx] at h; cases h; exact ⟨List.prefix_refl _, fun _ => hb⟩
  | some x =>
    have hk : m.k < l.length := by
      rcases Nat.lt_or_ge m.k l.length with g | g
      · exact g
      · rw [List.getElem?_eq_none g] at hx; cases hx
    rw [hx] at h
    simp only at h
    split at h
    · rename_i hw
      obtain ⟨_, pre, b, h1, h2⟩ := hb.busy hw
      have hp : evB l m.sts <+: evB l (m.sts.set m.k (beganM m, some (beganM m + takes.getD m.k 0))) := by
        rw [setd_pre h1 h2, began_pre h1 h2, h1]
        exact pre_end l pre x b _ (by rw [h2]; exact hx)
      split at h
      · unfold finishM at h
        split at h
        · cases h; exact ⟨hp, fun g => by rcases g with g | g <;> cases g⟩
        · split at h
          · cases h; exact ⟨hp, fun g => by rcases g with g | g <;> cases g⟩
          · cases h
            refine ⟨hp, fun _ => ⟨hk, fun _ => ?_, fun g => by cases g⟩⟩
            show (m.sts.set m.k _).length = m.k + 1
            rw [List.length_set, h1]; simp [h2]
      · split at h
        · cases h; exact ⟨List.prefix_refl _, fun g => by rcases g with g | g <;> cases g⟩
        · cases h; exact ⟨List.prefix_refl _, fun _ => hb⟩
    · rename_i hw
      have hw : m.work = false := by simpa using hw
      split at h
      · cases h; exact ⟨List.prefix_refl _, fun _ => hb⟩
      · unfold beginM at h
        split at h
        · cases h; exact ⟨List.prefix_refl _, fun g => by rcases g with g | g <;> cases g⟩
        · split at h
          · cases h; exact ⟨List.prefix_refl _, fun g => by rcases g with g | g <;> cases g⟩
          · cases h
            have hl := hb.free hw
            exact ⟨pre_begin l m.sts x _ (by rw [hl]; exact hx), fun _ => ⟨hb.le, fun g => (by cases g), fun _ => ⟨hk, m.sts, m.time, rfl, hl⟩⟩⟩

theorem lookM_bk {l : List TStp} {J : Nat} {takes : List Nat} : ∀ (n : Nat) (m : Ms), muM l m = n → Bk l m → evB l m.sts <+: evB l (lookM l J takes m).2.sts ∧ ((lookM l J takes m).1 = 0 → Bk l (lookM l J takes m).2) := by
  intro n
  induction n using Nat.strongRecOn with
  | ind n ih =>
    intro m hn hb
    rcases ho : oneM l J takes m with ⟨r, m'⟩
    obtain ⟨h1, h2⟩ := oneM_bk hb ho
    cases r with
    | none =>
      rw [lookM_none ho]
      have hmu := oneM_mu ho
      obtain ⟨g1, g2⟩ := ih _ (by omega) m' rfl (h2 (Or.inl rfl))
      exact ⟨h1.trans g1, g2⟩
    | some e =>
      rw [lookM_some ho]
      exact ⟨h1, fun he => h2 (Or.inr (by rw [show e = 0 from he]))⟩

theorem runM_bk {l : List TStp} {J : Nat} {takes : List Nat} : ∀ (cs : List Nat) (r : Nat × Ms), (r.1 = 0 → Bk l r.2) → evB l r.2.sts <+: evB l (runM l J takes cs r).2.sts ∧ ((runM l J takes cs r).1 = 0 → Bk l (runM l J takes cs r).2)
  | [], r, h => ⟨List.prefix_refl _, h⟩
  | c :: cs, r, h => by
    by_cases he : r.1 = 0
    · rw [runM_cons he]
      have hb := h he
      have hb' : Bk l { r.2 with time := r.2.time + c } := ⟨hb.le, hb.free, hb.busy⟩
      obtain ⟨h1, h2⟩ := lookM_bk (J := J) (takes := takes) _ _ rfl hb'
      obtain ⟨g1, g2⟩ := runM_bk cs (lookM l J takes { r.2 with time := r.2.time + c }) h2
      exact ⟨List.IsPrefix.trans h1 g1, g2⟩
    · rw [runM_end he]; exact ⟨List.prefix_refl _, fun g => absurd g he⟩
theorem runM_app {l : List TStp} {J : Nat} {takes : List Nat} : ∀ (cs ds : List Nat) (r : Nat × Ms), runM l J takes (cs ++ ds) r = runM l J takes ds (runM l J takes cs r)
  | [], _, _ => rfl
  | c :: cs, ds, r => by
    by_cases he : r.1 = 0
    · rw [List.cons_append, runM_cons he, runM_cons he]; exact runM_app cs ds _
    · rw [runM_end he, runM_end he, runM_end he]
theorem start_bk (l : List TStp) : Bk l startM := ⟨Nat.zero_le _, fun _ => rfl, fun h => by cases h⟩
theorem machF_bk (l : List TStp) (J : Nat) (clock takes : List Nat) : (machF l J clock takes).1 = 0 → Bk l (machF l J clock takes).2 :=
  (runM_bk clock _ (lookM_bk _ _ rfl (start_bk l)).2).2
/-- A longer clock: what has ended stays. -/
theorem machF_ended {l : List TStp} {J : Nat} {C M takes : List Nat} (h : (machF l J C takes).1 ≠ 0) : machF l J (C ++ M) takes = machF l J C takes := by
  unfold machF at h ⊢
  rw [runM_app, runM_end h]
/-- A longer clock: what was told stays. -/
theorem machF_onward (l : List TStp) (J : Nat) (C M takes : List Nat) : evB l (machF l J C takes).2.sts <+: evB l (machF l J (C ++ M) takes).2.sts := by
  rw [show machF l J (C ++ M) takes = runM l J takes M (machF l J C takes) by unfold machF; rw [runM_app]]
  exact (runM_bk M _ (machF_bk l J C takes)).1

/-- What stands ahead of the first semicolon, and behind it. -/
def cutF : List UInt8 → List UInt8 × List UInt8
  | [] => ([], [])
  | b :: r => if b = 59 then ([], r) else (b :: (cutF r).1, (cutF r).2)
theorem cutF_at (h e : List UInt8) (hn : 59 ∉ h) : cutF (h ++ 59 :: e) = (h, e) := by
  induction h with
  | nil => simp [cutF]
  | cons b r ih =>
    have h1 : b ≠ 59 := fun g => hn (by simp [g])
    have h2 : 59 ∉ r := fun g => hn (by simp [g])
    rw [List.cons_append, cutF, if_neg h1, ih h2]
def headB (l : List TStp) (r : Nat × Ms) : List UInt8 := outB r.1 ++ (if 2 ≤ r.1 then [32] ++ nameAt l r.2.k else [])
theorem tellF_head (l : List TStp) (r : Nat × Ms) : tellF l r = headB l r ++ 59 :: evB l r.2.sts := by simp [tellF, headB]
theorem name_no {pl no : Nat} (h1 : pl < 4) (h2 : no < 10) : (59 : UInt8) ∉ nmB pl no := by
  have key : ∀ p : Fin 4, ∀ n : Fin 10, (59 : UInt8) ∉ nmB p.val n.val := by decide
  exact key ⟨pl, h1⟩ ⟨no, h2⟩
theorem outB_no (e : Nat) : (59 : UInt8) ∉ outB e := by
  match e with
  | 0 => decide
  | 1 => decide
  | 2 => decide
  | 3 => decide
  | 4 => decide
  | n + 5 => exact (by decide : (59 : UInt8) ∉ outB 5)
theorem headB_no {l : List TStp} (hok : ∀ y ∈ l, TOk y) (r : Nat × Ms) : (59 : UInt8) ∉ headB l r := by
  unfold headB
  intro h
  rcases List.mem_append.1 h with h | h
  · exact outB_no _ h
  · split at h
    · rcases List.mem_append.1 h with h | h
      · revert h; decide
      · unfold nameAt at h
        split at h
        · rename_i x hx
          have := hok x (List.mem_of_getElem? hx)
          exact name_no this.pl this.no h
        · cases h
    · cases h
theorem cut_tell {l : List TStp} (hok : ∀ y ∈ l, TOk y) (r : Nat × Ms) : cutF (tellF l r) = (headB l r, evB l r.2.sts) := by
  rw [tellF_head]; exact cutF_at _ _ (headB_no hok r)
/-- What Onward asks of the two answers. -/
theorem onward_tell {l : List TStp} (hok : ∀ y ∈ l, TOk y) (J : Nat) (C M takes : List Nat) :
    ((cutF (tellF l (machF l J C takes))).1 ≠ outB 0 → tellF l (machF l J C takes) = tellF l (machF l J (C ++ M) takes)) ∧
    (cutF (tellF l (machF l J C takes))).2 <+: (cutF (tellF l (machF l J (C ++ M) takes))).2 := by
  rw [cut_tell hok, cut_tell hok]
  refine ⟨fun h => ?_, machF_onward l J C M takes⟩
  by_cases he : (machF l J C takes).1 = 0
  · exact absurd (by simp [headB, he]) h
  · rw [machF_ended he]

/-- What is read of a number is digits. -/
theorem digF_pass (s : ByteArray) : ∀ k at_ v i, at_ ≤ i → i < (digF s k at_ v).2 → 48 ≤ byteAt s i ∧ byteAt s i ≤ 57
  | 0, at_, v, i, h1, h2 => by simp [digF] at h2; omega
  | k + 1, at_, v, i, h1, h2 => by
    unfold digF at h2
    split at h2
    · rename_i g
      by_cases e : i = at_
      · rw [e]; exact g
      · exact digF_pass s k (at_ + 1) _ i (by omega) h2
    · simp at h2; omega
theorem numF_pass {s : ByteArray} {m : Nat} {st : St} {i : Nat} (h1 : st.pos ≤ i) (h2 : i < (numF s m st).2.pos) : 48 ≤ byteAt s i ∧ byteAt s i ≤ 57 := by
  unfold numF at h2
  split at h2
  · simp at h2; omega
  · split at h2
    · rename_i e
      simp at h2
      rw [show i = st.pos by omega, e]; omega
    · split at h2
      · exact digF_pass s m st.pos 0 i h1 h2
      · simp at h2; omega
theorem numsF_pass {s : ByteArray} (n : Nat) : ∀ (st : St) (acc : List Nat) (i : Nat), s.size - st.pos = n → st.pos ≤ i → i < (numsF s st acc).2.pos → byteAt s i ≠ 47 := by
  induction n using Nat.strongRecOn with
  | ind n ih =>
    intro st acc i hn h1 h2
    have hG := numF_ge s 3 st
    rw [numsF] at h2
    split at h2
    · simp at h2; omega
    · rename_i hbad
      split at h2
      · rename_i hq
        obtain ⟨_, g2, h3, h4⟩ := nextF_in (by omega) hq
        rw [h4] at h2
        by_cases c1 : i < (numF s 3 st).2.pos
        · have := numF_pass h1 c1; omega
        · by_cases c2 : i = (numF s 3 st).2.pos
          · rw [c2, g2]; omega
          · exact ih (s.size - ((numF s 3 st).2.pos + 1)) (by omega) ⟨(numF s 3 st).2.pos + 1, false⟩ _ i rfl (by simp only; omega) h2
      · rename_i hq
        have : (nextF s 44 (numF s 3 st).2).2 = (numF s 3 st).2 := by
          unfold nextF at hq ⊢
          split at hq
          · simp at hq
          · rename_i g; rw [if_neg g]
        simp only [this] at h2
        have := numF_pass h1 h2; omega
theorem numbersF_pass {s : ByteArray} {c : Nat} {st : St} {i : Nat} (h1 : st.pos ≤ i) (h2 : i < (numbersF s c st).2.pos) : byteAt s i ≠ 47 := by
  unfold numbersF at h2
  split at h2
  · simp at h2; omega
  · exact numsF_pass _ st [] i rfl h1 h2
theorem numbersF_badS {s : ByteArray} {c : Nat} {st : St} (h : st.bad = true) : (numbersF s c st).2.bad = true := by
  unfold numbersF
  split
  · exact h
  · rw [numsF, if_pos h]; exact h
/-- The one stroke of a right script. -/
theorem stroke {s : ByteArray} (h : scrOk s = true) : (scr1 s).2.bad = false ∧ byteAt s (scr1 s).2.pos = 47 ∧ takeF s 47 (scr1 s).2 = ⟨(scr1 s).2.pos + 1, false⟩ ∧ (scr2 s).2.pos = s.size ∧ (scr2 s).2.bad = false ∧ ∀ i, i < s.size → byteAt s i = 47 → i = (scr1 s).2.pos := by
  simp only [scrOk, Bool.and_eq_true, Bool.not_eq_true', beq_iff_eq] at h
  obtain ⟨h1, h2⟩ := h
  have ht : ¬ ((scr1 s).2.bad = true ∨ byteAt s (scr1 s).2.pos ≠ 47) := fun g => by
    have : (takeF s 47 (scr1 s).2).bad = true := by rw [takeF, if_pos g]
    have := numbersF_badS (s := s) (c := 0) this
    unfold scr2 at h1
    rw [this] at h1; cases h1
  have e1 : (scr1 s).2.bad = false := by
    cases hb : (scr1 s).2.bad
    · rfl
    · exact absurd (Or.inl hb) ht
  have e2 : byteAt s (scr1 s).2.pos = 47 := by
    rcases Nat.decEq (byteAt s (scr1 s).2.pos) 47 with g | g
    · exact absurd (Or.inr g) ht
    · exact g
  have e3 : takeF s 47 (scr1 s).2 = ⟨(scr1 s).2.pos + 1, false⟩ := by rw [takeF, if_neg ht]
  refine ⟨e1, e2, e3, h2, h1, fun i hi hb => ?_⟩
  rcases Nat.lt_trichotomy i (scr1 s).2.pos with g | g | g
  · exact absurd hb (numbersF_pass (st := ⟨0, false⟩) (Nat.zero_le _) g)
  · exact g
  · refine absurd hb (numbersF_pass (st := takeF s 47 (scr1 s).2) (c := 0) ?_ ?_)
    · rw [e3]; exact g
    · show i < (scr2 s).2.pos
      omega

/-- Two texts that agree up to a place, at which neither has a digit. -/
theorem digF_agree {A B : ByteArray} {n : Nat} (hag : ∀ i, i < n → byteAt A i = byteAt B i) (hA : ¬ (48 ≤ byteAt A n ∧ byteAt A n ≤ 57)) (hB : ¬ (48 ≤ byteAt B n ∧ byteAt B n ≤ 57)) : ∀ k at_ v, at_ ≤ n → digF A k at_ v = digF B k at_ v ∧ (digF A k at_ v).2 ≤ n
  | 0, at_, v, h => by simp [digF, h]
  | k + 1, at_, v, h => by
    unfold digF
    by_cases e : at_ = n
    · subst e; rw [if_neg hA, if_neg hB]; exact ⟨rfl, h⟩
    · rw [hag at_ (by omega)]
      split
      · exact digF_agree hag hA hB k (at_ + 1) _ (by omega)
      · exact ⟨rfl, h⟩
theorem numF_agree {A B : ByteArray} {n : Nat} (hag : ∀ i, i < n → byteAt A i = byteAt B i) (hA : ¬ (48 ≤ byteAt A n ∧ byteAt A n ≤ 57)) (hB : ¬ (48 ≤ byteAt B n ∧ byteAt B n ≤ 57)) (m p : Nat) (h : p ≤ n) : numF A m ⟨p, false⟩ = numF B m ⟨p, false⟩ ∧ (numF A m ⟨p, false⟩).2.pos ≤ n := by
  by_cases e : p = n
  · subst e
    rw [numF_no rfl hA, numF_no rfl hB]
    exact ⟨rfl, h⟩
  · have g := hag p (by omega)
    obtain ⟨d1, d2⟩ := digF_agree hag hA hB m p 0 h
    unfold numF
    simp only [g, Bool.false_eq_true, if_false]
    split
    · exact ⟨rfl, by simp only; omega⟩
    · split
      · rw [d1]; exact ⟨rfl, by rw [d1] at d2; exact d2⟩
      · exact ⟨rfl, h⟩
theorem numsF_acc {s : ByteArray} (n : Nat) : ∀ (st : St) (acc acc2 : List Nat), s.size - st.pos = n → numsF s st (acc ++ acc2) = (acc ++ (numsF s st acc2).1, (numsF s st acc2).2) := by
  induction n using Nat.strongRecOn with
  | ind n ih =>
    intro st acc acc2 hn
    have hG := numF_ge s 3 st
    rw [numsF, numsF.eq_1 s st acc2]
    split
    · rfl
    · split
      · rename_i hq
        obtain ⟨_, g2, h3, h4⟩ := nextF_in (by omega) hq
        rw [h4, List.append_assoc]
        exact ih (s.size - ((numF s 3 st).2.pos + 1)) (by omega) ⟨(numF s 3 st).2.pos + 1, false⟩ acc _ rfl
      · rw [List.append_assoc]
theorem numsF_agree {A B : ByteArray} {n : Nat} (hag : ∀ i, i < n → byteAt A i = byteAt B i) (hA : byteAt A n = 47) (hB : byteAt B n = 44) : ∀ (q p : Nat) (acc acc' : List Nat), n - p = q → p ≤ n → numsF A ⟨p, false⟩ acc = (acc', ⟨n, false⟩) → numsF B ⟨p, false⟩ acc = numsF B ⟨n + 1, false⟩ acc' := by
  intro q
  induction q using Nat.strongRecOn with
  | ind q ih =>
    intro p acc acc' hq hp h
    obtain ⟨e1, e2⟩ := numF_agree (A := A) (B := B) (n := n) hag (by omega) (by omega) 3 p hp
    have hG := numF_ge A 3 ⟨p, false⟩
    simp only at hG
    rw [numsF, if_neg (by simp)] at h
    rw [numsF, if_neg (by simp), ← e1]
    rcases hst : numF A 3 ⟨p, false⟩ with ⟨v, ⟨u, bad⟩⟩
    rw [hst] at h e2 hG
    simp only at h e2 hG ⊢
    cases bad with
    | true =>
      have k1 : nextF A 44 ⟨u, true⟩ = (false, ⟨u, true⟩) := nextF_no (by simp)
      rw [k1] at h
      simp at h
    | false =>
      by_cases hu : u = n
      · subst hu
        have k1 : nextF A 44 ⟨u, false⟩ = (false, ⟨u, false⟩) := nextF_no (by simp [hA])
        have k2 : nextF B 44 ⟨u, false⟩ = (true, ⟨u + 1, false⟩) := nextF_yes hB
        rw [k1] at h
        simp at h
        rw [k2]
        simp [h]
      · have hu' : u < n := by omega
        by_cases hc : byteAt A u = 44
        · have k1 : nextF A 44 ⟨u, false⟩ = (true, ⟨u + 1, false⟩) := nextF_yes hc
          have k2 : nextF B 44 ⟨u, false⟩ = (true, ⟨u + 1, false⟩) := nextF_yes (by rw [← hag u hu']; exact hc)
          rw [k1] at h
          rw [k2]
          simp only [dite_true] at h ⊢
          exact ih (n - (u + 1)) (by omega) (u + 1) _ acc' rfl (by omega) h
        · have k1 : nextF A 44 ⟨u, false⟩ = (false, ⟨u, false⟩) := nextF_no (by simp [hc])
          rw [k1] at h
          simp at h
          omega

/-- Two texts that agree from two places on. -/
theorem digF_shift {A B : ByteArray} {a b : Nat} (hag : ∀ i, byteAt A (a + i) = byteAt B (b + i)) : ∀ k i v, (digF A k (a + i) v).1 = (digF B k (b + i) v).1 ∧ ∃ j, (digF A k (a + i) v).2 = a + j ∧ (digF B k (b + i) v).2 = b + j
  | 0, i, v => ⟨rfl, i, rfl, rfl⟩
  | k + 1, i, v => by
    unfold digF
    rw [hag i]
    split
    · exact digF_shift hag k (i + 1) _
    · exact ⟨rfl, i, rfl, rfl⟩
theorem numF_shift {A B : ByteArray} {a b : Nat} (hag : ∀ i, byteAt A (a + i) = byteAt B (b + i)) (m i : Nat) (bad : Bool) : (numF A m ⟨a + i, bad⟩).1 = (numF B m ⟨b + i, bad⟩).1 ∧ ∃ j bad', (numF A m ⟨a + i, bad⟩).2 = ⟨a + j, bad'⟩ ∧ (numF B m ⟨b + i, bad⟩).2 = ⟨b + j, bad'⟩ := by
  unfold numF
  simp only [hag i]
  split
  · exact ⟨rfl, i, bad, rfl, rfl⟩
  · split
    · exact ⟨rfl, i + 1, false, rfl, rfl⟩
    · split
      · obtain ⟨h1, j, h2, h3⟩ := digF_shift hag m i 0
        exact ⟨h1, j, false, by rw [h2], by rw [h3]⟩
      · exact ⟨rfl, i, true, rfl, rfl⟩
theorem numsF_shift {A B : ByteArray} {a b : Nat} (hag : ∀ i, byteAt A (a + i) = byteAt B (b + i)) : ∀ (q i : Nat) (bad : Bool) (acc : List Nat), A.size - (a + i) = q → (numsF A ⟨a + i, bad⟩ acc).1 = (numsF B ⟨b + i, bad⟩ acc).1 := by
  intro q
  induction q using Nat.strongRecOn with
  | ind q ih =>
    intro i bad acc hq
    obtain ⟨e1, j, bd, e2, e3⟩ := numF_shift hag 3 i bad
    have hG := numF_ge A 3 ⟨a + i, bad⟩
    rw [numsF, numsF.eq_1 B]
    cases bad with
    | true => simp
    | false =>
      simp only [Bool.false_eq_true, if_false]
      rw [e2] at hG
      simp only at hG
      rw [e1, e2, e3]
      cases bd with
      | true =>
        have k1 : nextF A 44 ⟨a + j, true⟩ = (false, ⟨a + j, true⟩) := nextF_no (by simp)
        have k2 : nextF B 44 ⟨b + j, true⟩ = (false, ⟨b + j, true⟩) := nextF_no (by simp)
        rw [k1, k2]; simp
      | false =>
        by_cases hc : byteAt A (a + j) = 44
        · have hin := byteAt_in (s := A) (i := a + j) (by omega)
          have k1 : nextF A 44 ⟨a + j, false⟩ = (true, ⟨a + j + 1, false⟩) := nextF_yes hc
          have k2 : nextF B 44 ⟨b + j, false⟩ = (true, ⟨b + j + 1, false⟩) := nextF_yes (by rw [← hag j]; exact hc)
          rw [k1, k2]
          simp only [dite_true]
          exact ih (A.size - (a + (j + 1))) (by omega) (j + 1) false _ rfl
        · have k1 : nextF A 44 ⟨a + j, false⟩ = (false, ⟨a + j, false⟩) := nextF_no (by simp [hc])
          have k2 : nextF B 44 ⟨b + j, false⟩ = (false, ⟨b + j, false⟩) := nextF_no (by simp [← hag j, hc])
          rw [k1, k2]; simp

/-- A script with a longer clock: its clock goes on, its lengths are the same. -/
theorem longer {A B : ByteArray} {n n2 : Nat} (hA : scrOk A = true) (hB : scrOk B = true) (h1 : n < A.size) (h2 : n < n2) (h3 : n2 < B.size) (hag : ∀ i, i < n → byteAt A i = byteAt B i) (a1 : byteAt A n = 47) (b1 : byteAt B n = 44) (b2 : byteAt B n2 = 47) (hsh : ∀ i, byteAt A (n + 1 + i) = byteAt B (n2 + 1 + i)) (hsz : A.size - n = B.size - n2) :
    (∃ M, (scr1 B).1 = (scr1 A).1 ++ M) ∧ (scr2 A).1 = (scr2 B).1 := by
  obtain ⟨p1, p2, p3, p4, p5, p6⟩ := stroke hA
  obtain ⟨q1, q2, q3, q4, q5, q6⟩ := stroke hB
  have en := p6 n h1 a1
  have en2 := q6 n2 h3 b2
  rw [← en] at p3
  rw [← en2] at q3
  refine ⟨?_, ?_⟩
  · have hs1 : scr1 A = ((scr1 A).1, ⟨n, false⟩) := by
      rcases hh : scr1 A with ⟨v, ⟨p, b⟩⟩
      rw [hh] at en p1
      simp only at en p1
      rw [en, p1]
    by_cases hz : byteAt A 0 = 47
    · exfalso
      have : scr1 A = ([], ⟨0, false⟩) := by unfold scr1 numbersF; rw [if_pos (Or.inr ⟨by omega, hz⟩)]
      rw [this] at en
      simp only at en
      subst en
      have hb : scr1 B = numsF B ⟨0, false⟩ [] := by
        unfold scr1 numbersF
        rw [if_neg (by simp; rw [b1]; omega)]
      rw [numsF, if_neg (by simp), numF_no rfl (by simp only [b1]; omega)] at hb
      rw [nextF_no (by simp)] at hb
      simp at hb
      rw [hb] at q1
      cases q1
    · have hA1 : scr1 A = numsF A ⟨0, false⟩ [] := by
        unfold scr1 numbersF
        rw [if_neg (by simp; exact hz)]
      have hz' : byteAt B 0 ≠ 47 := by
        by_cases hn0 : n = 0
        · subst hn0; rw [b1]; omega
        · rw [← hag 0 (by omega)]; exact hz
      have hB1 : scr1 B = numsF B ⟨0, false⟩ [] := by
        unfold scr1 numbersF
        rw [if_neg (by simp; exact hz')]
      have := numsF_agree hag a1 b1 (n - 0) 0 [] (scr1 A).1 rfl (Nat.zero_le _) (hA1 ▸ hs1)
      rw [← hB1] at this
      rw [this]
      have hac := numsF_acc (s := B) _ ⟨n + 1, false⟩ (scr1 A).1 [] rfl
      rw [List.append_nil] at hac
      rw [hac]
      exact ⟨_, rfl⟩
  · unfold scr2
    rw [p3, q3]
    unfold numbersF
    by_cases hz : n + 1 = A.size
    · rw [if_pos (Or.inl ⟨rfl, hz⟩), if_pos (Or.inl ⟨rfl, by simp only; omega⟩)]
    · rw [if_neg (by simp; omega), if_neg (by simp; omega)]
      exact numsF_shift (a := n + 1) (b := n2 + 1) hsh _ 0 false [] rfl

end Hx
end Go.Proofs.YtppcnlkhdgmaiaaDoor
namespace Go.Proofs.YtppcnlkhdgmaiaaDoor
namespace Hx

theorem byteAt_data (s : ByteArray) (i : Nat) : byteAt s i = match s.data[i]? with | some b => b.toNat | none => 256 := by
  unfold byteAt
  by_cases h : i < s.size
  · rw [dif_pos h, Array.getElem?_eq_getElem h]; rfl
  · rw [dif_neg h, Array.getElem?_eq_none (by show s.size ≤ i; omega)]
theorem byteAt_left {a b : ByteArray} {i : Nat} (h : i < a.size) : byteAt (a ++ b) i = byteAt a i := by
  rw [byteAt_data, byteAt_data, ByteArray.data_append, Array.getElem?_append_left h]
theorem byteAt_right (a b : ByteArray) (i : Nat) : byteAt (a ++ b) (a.size + i) = byteAt b i := by
  rw [byteAt_data, byteAt_data, ByteArray.data_append, Array.getElem?_append_right (by show a.size ≤ _; omega)]
  have : a.size + i - a.data.size = i := by show a.size + i - a.size = i; omega
  rw [this]

/-- The two scripts of Onward. -/
theorem longer_texts (c m k : ByteArray) (hA : scrOk (c ++ ⟨#[47]⟩ ++ k) = true) (hB : scrOk (c ++ ⟨#[44]⟩ ++ m ++ ⟨#[47]⟩ ++ k) = true) :
    (∃ M, (scr1 (c ++ ⟨#[44]⟩ ++ m ++ ⟨#[47]⟩ ++ k)).1 = (scr1 (c ++ ⟨#[47]⟩ ++ k)).1 ++ M) ∧ (scr2 (c ++ ⟨#[47]⟩ ++ k)).1 = (scr2 (c ++ ⟨#[44]⟩ ++ m ++ ⟨#[47]⟩ ++ k)).1 := by
  have z1 : (⟨#[47]⟩ : ByteArray).size = 1 := rfl
  have z2 : (⟨#[44]⟩ : ByteArray).size = 1 := rfl
  have s1 : (c ++ ⟨#[47]⟩ : ByteArray).size = c.size + 1 := by rw [ByteArray.size_append, z1]
  have s2 : (c ++ ⟨#[44]⟩ : ByteArray).size = c.size + 1 := by rw [ByteArray.size_append, z2]
  have s3 : (c ++ ⟨#[44]⟩ ++ m : ByteArray).size = c.size + 1 + m.size := by rw [ByteArray.size_append, s2]
  have s4 : (c ++ ⟨#[44]⟩ ++ m ++ ⟨#[47]⟩ : ByteArray).size = c.size + 1 + m.size + 1 := by rw [ByteArray.size_append, s3, z1]
  have s5 : (c ++ ⟨#[47]⟩ ++ k : ByteArray).size = c.size + 1 + k.size := by rw [ByteArray.size_append, s1]
  have s6 : (c ++ ⟨#[44]⟩ ++ m ++ ⟨#[47]⟩ ++ k : ByteArray).size = c.size + 1 + m.size + 1 + k.size := by rw [ByteArray.size_append, s4]
  refine longer (n := c.size) (n2 := c.size + 1 + m.size) hA hB (by omega) (by omega) (by omega) ?_ ?_ ?_ ?_ ?_ (by omega)
  · intro i hi
    rw [byteAt_left (by omega), byteAt_left (by omega), byteAt_left (by omega), byteAt_left (by omega), byteAt_left (by omega), byteAt_left (by omega)]
  · rw [byteAt_left (by omega)]
    have := byteAt_right c ⟨#[47]⟩ 0
    rw [Nat.add_zero] at this
    rw [this]; rfl
  · rw [byteAt_left (by omega), byteAt_left (by omega), byteAt_left (by omega)]
    have := byteAt_right c ⟨#[44]⟩ 0
    rw [Nat.add_zero] at this
    rw [this]; rfl
  · rw [byteAt_left (by omega)]
    have := byteAt_right (c ++ ⟨#[44]⟩ ++ m) ⟨#[47]⟩ 0
    rw [Nat.add_zero, s3] at this
    rw [this]; rfl
  · intro i
    have h1 := byteAt_right (c ++ ⟨#[47]⟩) k i
    have h2 := byteAt_right (c ++ ⟨#[44]⟩ ++ m ++ ⟨#[47]⟩) k i
    rw [s1] at h1
    rw [s4] at h2
    rw [h1, h2]

/-- How many are read. -/
theorem numsF_count {s : ByteArray} (n : Nat) : ∀ (st : St) (acc : List Nat), s.size - st.pos = n → (numsF s st acc).1.length ≤ acc.length + (s.size - st.pos) + 1 := by
  induction n using Nat.strongRecOn with
  | ind n ih =>
    intro st acc hn
    have hG := numF_ge s 3 st
    rw [numsF]
    split
    · simp only; omega
    · split
      · rename_i hq
        obtain ⟨_, _, h3, h4⟩ := nextF_in (by omega) hq
        rw [h4]
        have := ih (s.size - ((numF s 3 st).2.pos + 1)) (by omega) ⟨(numF s 3 st).2.pos + 1, false⟩ (acc ++ [(numF s 3 st).1]) rfl
        refine Nat.le_trans this ?_
        simp only [List.length_append, List.length_cons, List.length_nil]
        omega
      · simp only [List.length_append, List.length_cons, List.length_nil]; omega
theorem numbersF_count {s : ByteArray} {c : Nat} {st : St} : (numbersF s c st).1.length ≤ s.size + 1 := by
  unfold numbersF
  split
  · simp
  · have := numsF_count (s := s) _ st [] rfl
    simp only [List.length_nil] at this
    omega
theorem tablesF_len (s : ByteArray) (st : St) (acc : List TStp) : (tablesF s st acc).2.length ≤ acc.length + mT s st := by
  induction st, acc using tablesF.induct (s := s) with
  | case1 st acc hc ih =>
    rw [tablesF, dif_pos hc]
    have h := mT_lt hc.1 hc.2
    rw [List.length_append, List.length_cons, List.length_nil] at ih
    omega
  | case2 st acc hc =>
    rw [tablesF, dif_neg hc]
    simp only; omega
theorem tableF_len (s : ByteArray) : (tableF s).2.length ≤ 2 * s.size + 2 := by
  have h := tablesF_len s (theadF s).2 []
  have h2 : mT s (theadF s).2 ≤ 2 * s.size + 2 := by unfold mT; split <;> omega
  rw [List.length_nil] at h
  unfold tableF
  omega

end Hx
end Go.Proofs.YtppcnlkhdgmaiaaDoor
namespace Go.Proofs.YtppcnlkhdgmaiaaDoor
open Go.RowKit

theorem Hx.cutF_none (l : List UInt8) (h : ∀ b ∈ l, b ≠ 59) : Hx.cutF l = (l, []) := by
  induction l with
  | nil => rfl
  | cons b r ih => rw [Hx.cutF, if_neg (h b (by simp)), ih (fun c hc => h c (by simp [hc]))]
theorem Hx.cutF_there {l : List UInt8} {i : Nat} (hi : l[i]? = some 59) (h : ∀ j, j < i → l[j]? ≠ some 59) : Hx.cutF l = (l.take i, l.drop (i + 1)) := by
  induction l generalizing i with
  | nil => simp at hi
  | cons b r ih =>
    cases i with
    | zero =>
      simp at hi
      rw [Hx.cutF, if_pos hi]; simp
    | succ i =>
      have h0 := h 0 (by omega)
      simp at h0
      rw [Hx.cutF, if_neg h0, ih (by simpa using hi) (fun j hj => by have := h (j + 1) (by omega); simpa using this)]
      simp

set_option maxHeartbeats 1000000 in
theorem cut_any (s : ByteArray) (w : World) (hs : s.size ≤ 1000000000) :
    Calls Tryd.prog 28 #[.string s] w fun e w' => e = .returned (.tuple #[.string ⟨(Hx.cutF s.data.toList).1.toArray⟩, .string ⟨(Hx.cutF s.data.toList).2.toArray⟩]) ∧ ∃ n, w' = w.drewN n := by
  obtain ⟨FIN, hFIN⟩ : ∃ FIN, FIN = Hx.cutF s.data.toList := ⟨_, rfl⟩
  rw [← hFIN]
  have HFIN := hide hFIN
  clear hFIN
  go_enter Tryd.func28, Tryd.ntmps28
  go_wp2_with fail
  go_loopg [4] s.size (fun gk kk wr => ∃ i : Nat, i ≤ s.size ∧ gk = s.size - i ∧ kk = .int .i64 (i : Int) ∧ wr = w ∧ Hid (∀ j, j < i → s.data.toList[j]? ≠ some 59))
  case atStart => exact ⟨0, Nat.zero_le _, rfl, rfl, rfl, fun j hj => absurd hj (Nat.not_lt_zero _)⟩
  case round =>
    obtain ⟨i, hi, rfl, rfl, rfl, HN⟩ := hrel
    by_cases hlt : i < s.size
    · have hiI : (i : Int) < (s.size : Int) := by omega
      have hi0 : (0 : Int) ≤ (i : Int) := by omega
      by_cases hb : s[i] = 59
      · have HF : Hid (FIN = ((s.data.toList).take i, (s.data.toList).drop (i + 1))) := by
          show _ = _
          rw [unhide HFIN]
          refine Hx.cutF_there ?_ (unhide HN)
          rw [Array.getElem?_toList, Array.getElem?_eq_getElem hlt]
          exact congrArg some hb
        clear HFIN
        go_wp2_with fail
        go_quiet (fail)
        go_wp2_with fail
        go_returns
        rw [unhide HF]
        refine ⟨?_, _, rfl⟩
        have e1 : s.extract 0 i = ⟨(List.take i s.data.toList).toArray⟩ := by
          apply ByteArray.ext
          rw [ByteArray.data_extract]
          apply Array.ext'
          simp
        have e2 : s.extract (i + 1) s.size = ⟨(List.drop (i + 1) s.data.toList).toArray⟩ := by
          apply ByteArray.ext
          rw [ByteArray.data_extract]
          apply Array.ext'
          simp
          exact List.take_of_length_le (by simp)
        rw [e1, e2]
        rfl
      · have hbI : ((s[i].toNat : Int) == 59) = false := by
          rw [beq_eq_false_iff_ne]
          intro e
          apply hb
          apply UInt8.toNat_inj.1
          show s[i].toNat = 59
          omega
        have HN2 : Hid (∀ j, j < i + 1 → s.data.toList[j]? ≠ some 59) := fun j hj => by
          by_cases e : j = i
          · subst e
            rw [Array.getElem?_toList, Array.getElem?_eq_getElem hlt]
            exact fun g => hb (Option.some.inj g)
          · exact unhide HN j (by omega)
        clear HFIN HN hb
        go_wp2_with fail
        go_roundg (s.size - (i + 1))
        case measure => omega
        case rel => exact ⟨i + 1, by omega, rfl, by go_num, rfl, HN2⟩
    · have hiI : ¬ (i : Int) < (s.size : Int) := by omega
      have HF : Hid (FIN = (s.data.toList, [])) := by
        show _ = _
        rw [unhide HFIN]
        refine Hx.cutF_none _ (fun b hb e => ?_)
        obtain ⟨j, hj, e2⟩ := List.mem_iff_getElem.1 hb
        have hjs : j < s.size := by simpa using hj
        exact unhide HN j (by omega) (by rw [List.getElem?_eq_getElem hj, e2, e])
      clear HFIN HN
      go_wp2_with fail
      go_returns
      refine ⟨?_, 0, rfl⟩
      rw [unhide HF]
      show _ = Ending.returned (.tuple #[.string ⟨s.data.toList.toArray⟩, .string ⟨#[]⟩])
      rw [Array.toArray_toList]
      rfl

end Go.Proofs.YtppcnlkhdgmaiaaDoor
namespace Go.Proofs.YtppcnlkhdgmaiaaDoor
open Go.RowKit

theorem Hx.wrongF_zero {l : List Hx.TStp} (n : Nat) : ∀ k, l.length - k = n → (Hx.wrongF l k).1 = 0 → Hx.wrongF l k = (0, 0) := by
  induction n with
  | zero =>
    intro k hk h
    rw [Hx.wrongF, if_neg (by omega)]
  | succ n ih =>
    intro k hk h
    rw [Hx.wrongF, if_pos (by omega)] at h ⊢
    split at h
    · rename_i g
      rw [if_pos g]
      exact ih (k + 1) (by omega) h
    · simp at h
/-- What is known of a Run without an error. -/
theorem Hx.run_zero {s t : ByteArray} (h : (Hx.refRunF s t).2 = 0) :
    s.size ≤ 400 ∧ t.size ≤ 800 ∧ Hx.scrOk t = true ∧ (Hx.tableF s).1.bad = false ∧ Hx.Right (Hx.tableF s).2 ∧ (Hx.refRunF s t).1 = Hx.tellF (Hx.tableF s).2 (Hx.machF (Hx.tableF s).2 (Hx.theadF s).1 (Hx.scr1 t).1 (Hx.scr2 t).1) := by
  unfold Hx.refRunF at h ⊢
  split at h
  · simp at h
  · rename_i g1
    rw [if_neg g1]
    split at h
    · rename_i g2; exact absurd h g2
    · rename_i g2
      rw [if_neg g2]
      split at h
      · simp at h
      · rename_i g3
        rw [if_neg g3]
        have hl : (Hx.lookF s).1 = 0 := by
          rcases Int.instDecidableEq (Hx.lookF s).1 0 with g | g
          · exact absurd g g2
          · exact g
        unfold Hx.lookF at hl
        rw [if_neg (by omega)] at hl
        split at hl
        · simp at hl
        · rename_i g4
          have hr : Hx.Right (Hx.tableF s).2 := Hx.right_of (Hx.wrongF_zero _ 0 rfl hl)
          refine ⟨by omega, by omega, by simpa using g3, by simpa using g4, hr, ?_⟩
          rw [Hx.machine_is hr]
          rfl
/-- What Onward asks. -/
theorem Hx.onward {s c m k : ByteArray} (h1 : (Hx.refRunF s (c ++ ⟨#[47]⟩ ++ k)).2 = 0) (h2 : (Hx.refRunF s (c ++ ⟨#[44]⟩ ++ m ++ ⟨#[47]⟩ ++ k)).2 = 0) :
    ((Hx.cutF (Hx.refRunF s (c ++ ⟨#[47]⟩ ++ k)).1).1 ≠ [111, 112, 101, 110] → (Hx.refRunF s (c ++ ⟨#[47]⟩ ++ k)).1 = (Hx.refRunF s (c ++ ⟨#[44]⟩ ++ m ++ ⟨#[47]⟩ ++ k)).1) ∧
    (Hx.cutF (Hx.refRunF s (c ++ ⟨#[47]⟩ ++ k)).1).2 <+: (Hx.cutF (Hx.refRunF s (c ++ ⟨#[44]⟩ ++ m ++ ⟨#[47]⟩ ++ k)).1).2 := by
  obtain ⟨_, _, a3, _, a5, a6⟩ := Hx.run_zero h1
  obtain ⟨_, _, b3, _, _, b6⟩ := Hx.run_zero h2
  obtain ⟨⟨M, hM⟩, hT⟩ := Hx.longer_texts c m k a3 b3
  rw [a6, b6, hM, ← hT]
  exact Hx.onward_tell a5.ok _ _ M _

theorem Hx.told_len (s t : ByteArray) : (Hx.refRunF s t).1.length ≤ 1000000 := by
  by_cases h : (Hx.refRunF s t).2 = 0
  · obtain ⟨h1, h2, _, _, _, h6⟩ := Hx.run_zero h
    have c1 := Hx.numbersF_count (s := t) (c := 47) (st := ⟨0, false⟩)
    have c2 := sum_le_mul (Hx.scr1 t).1 (fun v hv => Hx.numbersF_lt v hv)
    have c3 : (Hx.scr1 t).1.length ≤ t.size + 1 := c1
    have lk := mach_lk (l := (Hx.tableF s).2) (J := (Hx.theadF s).1) (clock := (Hx.scr1 t).1) (takes := (Hx.scr2 t).1) (fun v hv => Hx.numbersF_lt v hv) (by omega)
    have e1 := evB_len (Hx.tableF s).2 (Hx.machF (Hx.tableF s).2 (Hx.theadF s).1 (Hx.scr1 t).1 (Hx.scr2 t).1).2.sts lk.st
    have e2 := lk.len
    have e3 := Hx.tableF_len s
    have e4 := outB_len (Hx.machF (Hx.tableF s).2 (Hx.theadF s).1 (Hx.scr1 t).1 (Hx.scr2 t).1).1
    rw [h6, Hx.tellF_head, List.length_append, List.length_cons]
    have e5 : (Hx.headB (Hx.tableF s).2 (Hx.machF (Hx.tableF s).2 (Hx.theadF s).1 (Hx.scr1 t).1 (Hx.scr2 t).1)).length ≤ 9 := by
      unfold Hx.headB
      rw [List.length_append]
      have : (if 2 ≤ (Hx.machF (Hx.tableF s).2 (Hx.theadF s).1 (Hx.scr1 t).1 (Hx.scr2 t).1).1 then [32] ++ Hx.nameAt (Hx.tableF s).2 (Hx.machF (Hx.tableF s).2 (Hx.theadF s).1 (Hx.scr1 t).1 (Hx.scr2 t).1).2.k else []).length ≤ 3 := by
        split
        · unfold Hx.nameAt
          split <;> simp [Hx.nmB]
        · simp
      omega
    omega
  · unfold Hx.refRunF at h ⊢
    split
    · simp
    · rename_i g1
      rw [if_neg g1] at h
      split
      · simp
      · rename_i g2
        rw [if_neg g2] at h
        split
        · simp
        · rename_i g3
          rw [if_neg g3] at h
          exact absurd rfl h
abbrev smpB : ByteArray := ⟨#[106, 49, 59, 97, 48, 64, 48, 43, 50, 45, 51, 62, 48, 59, 98, 48, 64, 52, 43, 49, 45, 49, 59, 97, 49, 64, 57, 43, 52, 45, 52, 60, 48, 58, 53, 45, 57]⟩
abbrev scrB1 : ByteArray := ⟨#[50, 44, 50, 44, 50, 44, 50, 44, 50, 44, 50, 44, 50, 44, 50, 47, 51, 44, 49, 44, 52]⟩
abbrev scrB2 : ByteArray := ⟨#[51, 44, 51, 44, 51, 47, 50, 44, 49, 44, 52]⟩
set_option maxRecDepth 100000 in
theorem Hx.ran1 : Hx.refRunF smpB scrB1 = ([100, 111, 110, 101, 59, 97, 48, 58, 48, 45, 51, 44, 98, 48, 58, 52, 45, 53, 44, 97, 49, 58, 49, 48, 45, 49, 52], 0) := by decide +kernel
set_option maxRecDepth 100000 in
theorem Hx.ran2 : Hx.refRunF smpB scrB2 = ([108, 97, 116, 101, 32, 98, 48, 59, 97, 48, 58, 48, 45, 50], 0) := by decide +kernel

theorem run_ex1 (w : World) (h : RunE w) : Calls Tryd.prog 27 #[.string smpB, .string scrB1] w fun e w' => e = .returned (.tuple #[.string ⟨#[100, 111, 110, 101, 59, 97, 48, 58, 48, 45, 51, 44, 98, 48, 58, 52, 45, 53, 44, 97, 49, 58, 49, 48, 45, 49, 52]⟩, .int .i64 0]) ∧ Below w.heap.size w w' := by
  have := run_any smpB scrB1 w (by decide) (by decide) h.1 h.2.1 h.2.2
  rw [Hx.ran1] at this
  exact this
theorem run_ex2 (w : World) (h : RunE w) : Calls Tryd.prog 27 #[.string smpB, .string scrB2] w fun e w' => e = .returned (.tuple #[.string ⟨#[108, 97, 116, 101, 32, 98, 48, 59, 97, 48, 58, 48, 45, 50]⟩, .int .i64 0]) ∧ Below w.heap.size w w' := by
  have := run_any smpB scrB2 w (by decide) (by decide) h.1 h.2.1 h.2.2
  rw [Hx.ran2] at this
  exact this

set_option maxRecDepth 100000 in
set_option maxHeartbeats 1000000 in
theorem ran_any (w : World) (h : RunE w) : Calls Tryd.prog 26 #[] w fun e w' => e = .returned (.bool true) ∧ Below w.heap.size w w' := by
  have HR1 := hide (run_ex1 w h)
  have HE := hide h
  clear h
  go_enter Tryd.func26, Tryd.ntmps26
  go_wp2_with fail
  refine (unhide HR1).mono ?_
  rintro e w1 ⟨rfl, hb1⟩
  have HE1 := hide (lasts_run _ _ (unhide HE) hb1)
  have HB1 := hide hb1
  clear hb1
  go_wp2_with fail
  refine (run_ex2 w1 (unhide HE1)).mono ?_
  rintro e w2 ⟨rfl, hb2⟩
  have HB2 := hide ((unhide HB1).trans (hb2.mono (unhide HB1).size))
  clear hb2
  go_wp2_with fail
  go_returns
  exact ⟨rfl, unhide HB2⟩

set_option maxRecDepth 100000 in
set_option maxHeartbeats 4000000 in
theorem onward_any (s c m k : ByteArray) (w : World) (hs : s.size ≤ reachBytes) (hc : c.size ≤ reachBytes) (hm : m.size ≤ reachBytes) (hk : k.size ≤ reachBytes) (hE : RunE w) :
    Calls Tryd.prog 9 #[.string s, .string c, .string m, .string k] w fun e w' => e = .returned (.bool true) ∧ Below w.heap.size w w' := by
  unfold reachBytes at hs hc hm hk
  obtain ⟨A, hA⟩ : ∃ A, A = Hx.refRunF s (c ++ ⟨#[47]⟩ ++ k) := ⟨_, rfl⟩
  obtain ⟨B, hB⟩ : ∃ B, B = Hx.refRunF s (c ++ ⟨#[44]⟩ ++ m ++ ⟨#[47]⟩ ++ k) := ⟨_, rfl⟩
  have z1 : (⟨#[47]⟩ : ByteArray).size = 1 := rfl
  have z2 : (⟨#[44]⟩ : ByteArray).size = 1 := rfl
  have hA1 : (c ++ ⟨#[47]⟩ ++ k : ByteArray).size ≤ maxLen := by unfold maxLen; rw [ByteArray.size_append, ByteArray.size_append, z1]; omega
  have hB1 : (c ++ ⟨#[44]⟩ ++ m ++ ⟨#[47]⟩ ++ k : ByteArray).size ≤ maxLen := by unfold maxLen; rw [ByteArray.size_append, ByteArray.size_append, ByteArray.size_append, ByteArray.size_append, z1, z2]; omega
  have HRA : Hid (∀ w', RunE w' → Calls Tryd.prog 27 #[.string s, .string (c ++ ⟨#[47]⟩ ++ k)] w' fun e w2 => e = .returned (.tuple #[.string ⟨A.1.toArray⟩, .int .i64 A.2]) ∧ Below w'.heap.size w' w2) := by
    intro w' h; rw [hA]; exact run_any _ _ w' (by unfold maxLen; omega) hA1 h.1 h.2.1 h.2.2
  have HRB : Hid (∀ w', RunE w' → Calls Tryd.prog 27 #[.string s, .string (c ++ ⟨#[44]⟩ ++ m ++ ⟨#[47]⟩ ++ k)] w' fun e w2 => e = .returned (.tuple #[.string ⟨B.1.toArray⟩, .int .i64 B.2]) ∧ Below w'.heap.size w' w2) := by
    intro w' h; rw [hB]; exact run_any _ _ w' (by unfold maxLen; omega) hB1 h.1 h.2.1 h.2.2
  have HON : Hid (A.2 = 0 → B.2 = 0 → ((Hx.cutF A.1).1 ≠ [111, 112, 101, 110] → A.1 = B.1) ∧ (Hx.cutF A.1).2 <+: (Hx.cutF B.1).2) := by
    intro h1 h2
    rw [hA] at h1
    rw [hB] at h2
    rw [hA, hB]
    exact Hx.onward h1 h2
  have HLA : Hid (A.1.length ≤ 1000000) := by show _ ≤ _; rw [hA]; exact Hx.told_len _ _
  have HLB : Hid (B.1.length ≤ 1000000) := by show _ ≤ _; rw [hB]; exact Hx.told_len _ _
  clear hA hB hA1 hB1 z1 z2
  have HR0 := hide (ran_any w hE)
  have HE := hide hE
  clear hE
  have n1 : ¬ 9223372036854775807 < c.size + 1 := by omega
  have n2 : ¬ 9223372036854775807 < c.size + 1 + k.size := by omega
  have n3 : ¬ 9223372036854775807 < c.size + 1 + m.size := by omega
  have n4 : ¬ 9223372036854775807 < c.size + 1 + m.size + 1 := by omega
  have n5 : ¬ 9223372036854775807 < c.size + 1 + m.size + 1 + k.size := by omega
  go_enter Tryd.func9, Tryd.ntmps9
  go_wp2_with fail
  refine (unhide HR0).mono ?_
  rintro e w1 ⟨rfl, hb1⟩
  have HE1 := hide (lasts_run _ _ (unhide HE) hb1)
  have HB1 := hide hb1
  clear hb1
  go_wp2_with fail
  refine (unhide HRA w1 (unhide HE1)).mono ?_
  rintro e w2 ⟨rfl, hb2⟩
  have HE2 := hide (lasts_run _ _ (unhide HE1) hb2)
  have HB2 := hide ((unhide HB1).trans (hb2.mono (unhide HB1).size))
  clear hb2
  go_wp2_with fail
  refine (unhide HRB w2 (unhide HE2)).mono ?_
  rintro e w3 ⟨rfl, hb3⟩
  have HB3 := hide ((unhide HB2).trans (hb3.mono (unhide HB2).size))
  clear hb3 HRA HRB HR0 HE HE1 HE2 HB1 HB2
  obtain ⟨a1, a2⟩ := A
  obtain ⟨b1, b2⟩ := B
  simp only at HON HLA HLB ⊢
  by_cases ha : a2 = 0
  · subst ha
    by_cases hb : b2 = 0
    · subst hb
      obtain ⟨o1, o2⟩ := unhide HON rfl rfl
      clear HON
      go_wp2_with fail
      refine (cut_any ⟨a1.toArray⟩ w3 (Nat.le_trans (unhide HLA) (by omega))).mono ?_
      rintro e w4 ⟨rfl, n, hw4⟩
      have HB4 : Hid (Below w.heap.size w w4) := by rw [hw4]; exact below_drewN (unhide HB3) n
      clear hw4
      go_wp2_with fail
      refine (cut_any ⟨b1.toArray⟩ w4 (Nat.le_trans (unhide HLB) (by omega))).mono ?_
      rintro e w5 ⟨rfl, n5', hw5⟩
      have HB5 : Hid (Below w.heap.size w w5) := by rw [hw5]; exact below_drewN (unhide HB4) n5'
      clear hw5
      have hda : (⟨a1.toArray⟩ : ByteArray).data.toList = a1 := by simp
      have hdb : (⟨b1.toArray⟩ : ByteArray).data.toList = b1 := by simp
      rw [hdb]
      obtain ⟨how, rest, hca⟩ : ∃ how rest, Hx.cutF a1 = (how, rest) := ⟨_, _, rfl⟩
      obtain ⟨how2, aft, hcb⟩ : ∃ how rest, Hx.cutF b1 = (how, rest) := ⟨_, _, rfl⟩
      rw [hca, hcb] at o2
      rw [hca] at o1
      rw [hca, hcb]
      simp only at o1 o2 ⊢
      clear hda hdb hca hcb
      by_cases hop : how = [111, 112, 101, 110]
      · subst hop
        clear o1
        have hle : rest.length ≤ aft.length := o2.length_le
        have hex : ((⟨aft.toArray⟩ : ByteArray).extract 0 rest.length).toList == rest := by
          obtain ⟨z, rfl⟩ := o2
          have e1 : (⟨(rest ++ z).toArray⟩ : ByteArray).extract 0 rest.length = ⟨rest.toArray⟩ := by
            apply ByteArray.ext
            rw [ByteArray.data_extract]
            apply Array.ext'
            simp
          rw [e1]
          simp
        have HOK := hide o2
        clear o2
        go_wp2_with fail
        go_returns
        exact ⟨rfl, unhide HB5⟩
      · have HEQ := o1 hop
        subst HEQ
        clear o1 o2
        have hno : (!how == [111, 112, 101, 110]) = true := by simpa using hop
        clear hop
        go_wp2_with fail
        go_returns
        exact ⟨rfl, unhide HB5⟩
    · have hbI : (b2 != 0) = true := by simpa using hb
      clear HON hb
      go_wp2_with fail
      go_returns
      exact ⟨rfl, unhide HB3⟩
  · have haI : (a2 != 0) = true := by simpa using ha
    clear HON ha
    go_wp2_with fail
    go_returns
    exact ⟨rfl, unhide HB3⟩

end Go.Proofs.YtppcnlkhdgmaiaaDoor
namespace Go.Proofs.YtppcnlkhdgmaiaaDoor
open Go.RowKit

/-- Which of n things a raw number speaks of. -/
def Hx.pickN (c : Int) (n : Nat) : Nat := (if c < 0 then (-(c + 1)).toNat else c.toNat) % n
theorem Hx.pickN_lt (c : Int) {n : Nat} (hn : 0 < n) : Hx.pickN c n < n := Nat.mod_lt _ hn

set_option maxHeartbeats 1000000 in
theorem pick_any (c : Int) (n : Nat) (w : World) (h1 : -9223372036854775808 ≤ c) (h2 : c ≤ 9223372036854775807) (hn : 0 < n) (hn2 : n ≤ 9223372036854775807) :
    Calls Tryd.prog 15 #[.int .i64 c, .int .i64 (n : Int)] w fun e w' => e = .returned (.int .i64 (Hx.pickN c n : Int)) ∧ w' = w := by
  go_enter Tryd.func15, Tryd.ntmps15
  have hnz : (n : Int) ≠ 0 := by omega
  by_cases hc : c < 0
  · have e1 : (Hx.pickN c n : Int) = Int.tmod (-(c + 1)) (n : Int) := by
      unfold Hx.pickN
      rw [if_pos hc]
      obtain ⟨m, hm⟩ : ∃ m : Nat, -(c + 1) = (m : Int) := ⟨(-(c + 1)).toNat, by omega⟩
      rw [hm, Int.toNat_natCast]
      rfl
    have HE := hide e1
    clear e1
    go_wp2_with fail
    go_returns
    refine ⟨ret_int ?_, rfl⟩
    rw [unhide HE, Int.neg_tmod]
  · have e1 : (Hx.pickN c n : Int) = Int.tmod c (n : Int) := by
      unfold Hx.pickN
      rw [if_neg hc]
      obtain ⟨m, rfl⟩ : ∃ m : Nat, c = (m : Int) := ⟨c.toNat, by omega⟩
      rw [Int.toNat_natCast]
      rfl
    have HE := hide e1
    clear e1
    go_wp2_with fail
    go_returns
    refine ⟨ret_int ?_, rfl⟩
    rw [unhide HE, Int.tmod_eq_emod_of_nonneg (by omega)]

end Go.Proofs.YtppcnlkhdgmaiaaDoor
namespace Go.Proofs.YtppcnlkhdgmaiaaDoor
open Go.RowKit

def trnsCells (l : List Hx.Trn) : List Value := l.flatMap trnCells
theorem trnsCells_snoc (l : List Hx.Trn) (t : Hx.Trn) : trnsCells (l ++ [t]) = trnsCells l ++ trnCells t := by simp [trnsCells]
theorem trnsCells_at (l : List Hx.Trn) (j : Nat) (t : Hx.Trn) (h : l[j]? = some t) (i : Nat) (hi : i < 8) : (trnsCells l)[j * 8 + i]? = (trnCells t)[i]? := by
  induction l generalizing j with
  | nil => simp at h
  | cons z r ih =>
    have e : trnsCells (z :: r) = trnCells z ++ trnsCells r := rfl
    rw [e]
    have hl : (trnCells z).length = 8 := rfl
    cases j with
    | zero =>
      simp at h
      subst h
      rw [Nat.zero_mul, Nat.zero_add, List.getElem?_append_left (by omega)]
    | succ j =>
      rw [List.getElem?_append_right (by omega), hl, show (j + 1) * 8 + i - 8 = j * 8 + i by omega]
      exact ih j (by simpa using h)
theorem trnCells_one (t : Hx.Trn) : ∀ u ∈ trnCells t, u.oneCell' = true := by
  intro u hu
  simp [trnCells] at hu
  rcases hu with rfl | rfl | rfl | rfl | rfl | rfl | rfl | rfl <;> rfl
/-- A slice of turns, as it lies. -/
abbrev Trns (w : World) (base : Nat) (v : Value) (l : List Hx.Trn) : Prop := w.ownsRow base 83 8 v l.length (trnsCells l)
theorem Tryd.info83 : (Tryd.prog.info? 83).map (fun i => (i.zero, i.size, i.bytes)) = some (some (.agg #[.int .i64 0, .int .i64 0, .bool false, .int .i64 0, .int .i64 0, .int .i64 0, .int .i64 0, .bool false]), 8, 64) := by kernel_rfl
/-- A slice of numbers, as it lies. -/
def natCells (n : Nat) (f : Nat → Nat) : List Value := (List.range n).map fun p => .int .i64 (f p : Int)
theorem natCells_at {n : Nat} {f : Nat → Nat} {p : Nat} (h : p < n) : (natCells n f)[p]? = some (.int .i64 (f p : Int)) := by simp [natCells, h]

theorem nextUp {K : Nat} {ps : List (List Hx.Stp)} {r : Int} {nx : Nat → Nat} (k : Nat) : (List.range (k + 1)).filterMap (Hx.nextAt K ps r nx) = (List.range k).filterMap (Hx.nextAt K ps r nx) ++ (Hx.nextAt K ps r nx k).toList := by
  rw [List.range_succ, List.filterMap_append]
  cases h : Hx.nextAt K ps r nx k <;> simp [h]
theorem nextUp_len {K : Nat} {ps : List (List Hx.Stp)} {r : Int} {nx : Nat → Nat} (k : Nat) : ((List.range k).filterMap (Hx.nextAt K ps r nx)).length ≤ k := by
  have := List.length_filterMap_le (Hx.nextAt K ps r nx) (List.range k)
  simpa using this

set_option maxRecDepth 100000 in
set_option maxHeartbeats 4000000 in
theorem next_any (J K D : Nat) (v dv : Value) (base : Nat) (ps : List (List Hx.Stp)) (r : Int) (nx : Nat → Nat) (w : World) (hps : Plts w base v ps) (hn : 0 < ps.length) (hl : ps.length ≤ 121) (hf : Hx.Fine ps)
    (hd : w.ownsRow 0 3 1 dv ps.length (natCells ps.length nx)) (hle : ∀ p, p < ps.length → nx p ≤ Hx.lenP ps p) (hr1 : -1000 ≤ r) (hr2 : r ≤ 1000) :
    Calls Tryd.prog 69 #[.agg #[.int .i64 (J : Int), .int .i64 (K : Int), .int .i64 (D : Int), v], dv, .int .i64 r] w fun e w' => ∃ nv, e = .returned nv ∧ Trns w' w.heap.size nv (Hx.nxtF K ps r nx) ∧ Below w.heap.size w w' := by
  have HPS := hide hps
  have HF := hide hf
  have HLE := hide hle
  have HD := hide hd
  obtain ⟨g, cap, rfl, hg⟩ : ∃ g cap, v = .slice (some ⟨g, 0, none⟩) ps.length cap ∧ g < w.heap.size := by
    obtain ⟨vs, hvs, hpp⟩ := hps
    obtain ⟨g, cap, e, _, hg⟩ := own_pos hvs hn
    exact ⟨g, cap, e, hg⟩
  obtain ⟨gd, capd, rfl, _, hgd⟩ := own_pos hd hn
  obtain ⟨i0, hi, hz0, hz1, hz2⟩ := info_parts Tryd.info83
  have HI := hide hi
  have HZ0 := hide hz0
  have HZ1 := hide hz1
  have HZ2 := hide hz2
  clear hps hf hle hd hi hz0 hz1 hz2
  go_enter Tryd.func69, Tryd.ntmps69
  go_wp2_with fail
  go_loopg [7, 14] ps.length (fun gk out i wr => ∃ (k : Nat) (l : List Hx.Trn), k ≤ ps.length ∧ gk = ps.length - k ∧ i = .int .i64 (k : Int) ∧ l = (List.range k).filterMap (Hx.nextAt K ps r nx) ∧ Trns wr w.heap.size out l ∧ Below w.heap.size w wr ∧ wr.heap[w.heap.size]? = some (.cells #[.int .i64 (J : Int), .int .i64 (K : Int), .int .i64 (D : Int), .slice (some ⟨g, 0, none⟩) ps.length cap] 75 (0, 0)))
  case atStart => exact ⟨0, [], Nat.zero_le _, rfl, rfl, rfl, World.ownsRow_nil _ _ _ _, belA _ (Below.refl _ _), blk_new _ _ _⟩
  case round =>
    obtain ⟨k, l, hk, rfl, rfl, hls, hrow, hbe, hbox⟩ := hrel
    obtain ⟨ao, capo, rfl⟩ := own_form hrow
    have hll : l.length ≤ k := by rw [hls]; exact nextUp_len k
    have HLS := hide hls
    have HROW := hide hrow
    have HBE := hide hbe
    have HBOX := hide hbox
    clear hls hrow hbe hbox
    by_cases hlt : k < ps.length
    · obtain ⟨p, hp⟩ : ∃ p, ps[k]? = some p := ⟨ps[k], List.getElem?_eq_getElem hlt⟩
      obtain ⟨x0, r0, ep, hx0⟩ := unhide HF k p hp
      have hp0 : 0 < p.length := by rw [ep]; simp
      obtain ⟨g', cap', g2, cap2, e', _, _, hg2, _, hc, hq121, _⟩ := (unhide HPS).plate hp hp0
      cases e'
      have hnk : nx k ≤ p.length := by have := unhide HLE k hlt; rwa [Hx.lenP_eq hp] at this
      have cP : wr.cell? ⟨g, k, none⟩ = some (.slice (some ⟨g2, 0, none⟩) p.length cap2) := by
        rw [(unhide HBE).cell (p := ⟨g, k, none⟩) hg]; exact hc
      have cD' : wr.cell? ⟨gd, k, none⟩ = some (.int .i64 (nx k : Int)) := by
        rw [(unhide HBE).cell (p := ⟨gd, k, none⟩) hgd, (unhide HD).cellAt k (by omega)]; exact natCells_at hlt
      have HP := hide hp
      clear hp hc ep hx0
      by_cases hfull : nx k = p.length
      · have hnone : Hid (Hx.nextAt K ps r nx k = none) := by
          show _ = _
          have : Hx.turnAt ps k (nx k) = none := by simp [Hx.turnAt, unhide HP, List.getElem?_eq_none (show p.length ≤ nx k by omega)]
          simp [Hx.nextAt, this]
        have hfe : ((nx k : Int) == (p.length : Int)) = true := by simp; omega
        go_wp2_with fail
        go_roundg (ps.length - (k + 1))
        case measure => omega
        case rel => exact ⟨k + 1, l, by omega, rfl, by go_num, by rw [nextUp, unhide hnone, unhide HLS]; simp, unhide HROW, unhide HBE, unhide HBOX⟩
      · have hfe : ((nx k : Int) == (p.length : Int)) = false := by simp; omega
        obtain ⟨t, ht⟩ : ∃ t, Hx.turnAt ps k (nx k) = some t := ⟨⟨p[nx k], k, nx k, Hx.begB p (nx k)⟩, by simp [Hx.turnAt, unhide HP, List.getElem?_eq_getElem (show nx k < p.length by omega)]⟩
        have HTT := hide ht
        have j0 : wr.cell? ⟨w.heap.size, 0, none⟩ = some (.int .i64 (J : Int)) := blk_cell (unhide HBOX) 0
        have j1 : wr.cell? ⟨w.heap.size, 1, none⟩ = some (.int .i64 (K : Int)) := blk_cell (unhide HBOX) 1
        have j2 : wr.cell? ⟨w.heap.size, 2, none⟩ = some (.int .i64 (D : Int)) := blk_cell (unhide HBOX) 2
        have j3 : wr.cell? ⟨w.heap.size, 3, none⟩ = some (.slice (some ⟨g, 0, none⟩) ps.length cap) := blk_cell (unhide HBOX) 3
        have hk0 : (0 : Int) ≤ (k : Int) := by omega
        have hkI : (k : Int) < (ps.length : Int) := by omega
        have HPSr : Hid (Plts wr base (.slice (some ⟨g, 0, none⟩) ps.length cap) ps) := (unhide HPS).below (unhide HBE)
        clear ht
        go_upto_region 6 with fail
        go_cut [10] (fun s10 wc => ∃ tb, s10 = .pointer (some ⟨tb, 0, none⟩) ∧ wc.heap[tb]? = some (.cells #[.int .i64 (t.x.lo : Int), .int .i64 (t.x.hi : Int), .bool t.x.rest, .int .i64 (t.x.mn : Int), .int .i64 (t.x.mx : Int), .int .i64 (t.pl : Int), .int .i64 (t.no : Int), .bool t.beg] 83 (0, 0)) ∧ Below wr.heap.size wr wc)
        case first =>
          go_region_held3 (fun w' => w'.cell? ⟨w.heap.size, 0, none⟩ = some (.int .i64 (J : Int)) ∧ w'.cell? ⟨w.heap.size, 1, none⟩ = some (.int .i64 (K : Int)) ∧ w'.cell? ⟨w.heap.size, 2, none⟩ = some (.int .i64 (D : Int)) ∧ w'.cell? ⟨w.heap.size, 3, none⟩ = some (.slice (some ⟨g, 0, none⟩) ps.length cap) ∧ w'.cell? ⟨gd, k, none⟩ = some (.int .i64 (nx k : Int))) (refine ⟨?_, ?_, ?_, ?_, ?_⟩ <;> (repeat (first | assumption | apply cD | apply cA)))
            (first | (go_at_call 49; refine (turn_exact J K D _ base ps _ k (nx k) t ?_ (unhide HTT)).mono ?_; (refine (unhide HPSr).below ?_; (repeat (first | exact Below.refl _ _ | apply belD | apply belA))); rintro e w2 ⟨rfl, rfl⟩))
          all_goals
            go_wp2_with fail
            go_meet
            case rel =>
              refine ⟨_, rfl, ?_, ?_⟩
              · repeat (first | (refine bN _ _ ?_; simp; done) | apply bD | apply bA)
              · repeat (first | exact Below.refl _ _ | apply belD | apply belA)
        case rest =>
          obtain ⟨tb, rfl, htb, hb2⟩ := hcut
          have HTB := hide htb
          have HBE2 := hide ((unhide HBE).trans (hb2.mono (unhide HBE).size))
          have HROW2 := hide (own_below (unhide HROW) hb2)
          have HBOX2 := hide ((hb2.block _ (lt_of_block (unhide HBOX))).trans (unhide HBOX))
          clear htb hb2 cP cD' j0 j1 j2 j3 HBOX HROW HPSr
          have t0 : wc.cell? ⟨tb, 0, none⟩ = some (.int .i64 (t.x.lo : Int)) := blk_cell (unhide HTB) 0
          have t1 : wc.cell? ⟨tb, 1, none⟩ = some (.int .i64 (t.x.hi : Int)) := blk_cell (unhide HTB) 1
          have t2 : wc.cell? ⟨tb, 2, none⟩ = some (.bool t.x.rest) := blk_cell (unhide HTB) 2
          have t3 : wc.cell? ⟨tb, 3, none⟩ = some (.int .i64 (t.x.mn : Int)) := blk_cell (unhide HTB) 3
          have t4 : wc.cell? ⟨tb, 4, none⟩ = some (.int .i64 (t.x.mx : Int)) := blk_cell (unhide HTB) 4
          have t5 : wc.cell? ⟨tb, 5, none⟩ = some (.int .i64 (t.pl : Int)) := blk_cell (unhide HTB) 5
          have t6 : wc.cell? ⟨tb, 6, none⟩ = some (.int .i64 (t.no : Int)) := blk_cell (unhide HTB) 6
          have t7 : wc.cell? ⟨tb, 7, none⟩ = some (.bool t.beg) := blk_cell (unhide HTB) 7
          have j1 : wc.cell? ⟨w.heap.size, 1, none⟩ = some (.int .i64 (K : Int)) := blk_cell (unhide HBOX2) 1
          obtain ⟨mr, hmr⟩ : ∃ mr, mr = Hx.moreR t := ⟨_, rfl⟩
          have hmr1 : -1 ≤ mr ∧ mr ≤ 1 := by rw [hmr]; unfold Hx.moreR; constructor <;> (split <;> split <;> omega)
          have HMR := hide hmr
          clear hmr
          go_upto_region 7 with fail
          go_cut [39] (fun s39 wd => s39 = .bool (decide (r + mr ≤ (K : Int))) ∧ Below wc.heap.size wc wd)
          case first =>
            go_region_held3 (fun w' => w'.cell? ⟨w.heap.size, 1, none⟩ = some (.int .i64 (K : Int)) ∧ w'.cell? ⟨tb, 0, none⟩ = some (.int .i64 (t.x.lo : Int)) ∧ w'.cell? ⟨tb, 1, none⟩ = some (.int .i64 (t.x.hi : Int)) ∧ w'.cell? ⟨tb, 2, none⟩ = some (.bool t.x.rest) ∧ w'.cell? ⟨tb, 3, none⟩ = some (.int .i64 (t.x.mn : Int)) ∧ w'.cell? ⟨tb, 4, none⟩ = some (.int .i64 (t.x.mx : Int)) ∧ w'.cell? ⟨tb, 5, none⟩ = some (.int .i64 (t.pl : Int)) ∧ w'.cell? ⟨tb, 6, none⟩ = some (.int .i64 (t.no : Int)) ∧ w'.cell? ⟨tb, 7, none⟩ = some (.bool t.beg)) (refine ⟨?_, ?_, ?_, ?_, ?_, ?_, ?_, ?_, ?_⟩ <;> (repeat (first | assumption | apply cD | apply cA)))
              (first | (go_at_call 71; refine (more_any t _).mono ?_; rw [← unhide HMR]; rintro e w2 ⟨rfl, rfl⟩))
            all_goals
              go_wp2_with fail
              go_meet
              case rel =>
                refine ⟨by rw [IntWalk.i64_in _ ⟨by omega, by omega⟩], ?_⟩
                repeat (first | exact Below.refl _ _ | apply belD | apply belA)
          case rest =>
            obtain ⟨rfl, hb3⟩ := hcut
            have HTB3 := hide ((hb3.block _ (lt_of_block (unhide HTB))).trans (unhide HTB))
            have HBE3 := hide ((unhide HBE2).trans (hb3.mono (unhide HBE2).size))
            have HROW3 := hide (own_below (unhide HROW2) hb3)
            have HBOX3 := hide ((hb3.block _ (lt_of_block (unhide HBOX2))).trans (unhide HBOX2))
            clear hb3 t0 t1 t2 t3 t4 t5 t6 t7 j1 HTB HBE2 HROW2 HBOX2
            cases hd : decide (r + mr ≤ (K : Int))
            · have hnone : Hid (Hx.nextAt K ps r nx k = none) := by
                show _ = _
                unfold Hx.nextAt
                rw [unhide HTT]
                simp only
                rw [if_neg (by rw [← unhide HMR]; simpa using hd)]
              clear hd
              go_wp2_with fail
              go_roundg (ps.length - (k + 1))
              case measure => omega
              case rel => exact ⟨k + 1, l, by omega, rfl, by go_num, by rw [nextUp, unhide hnone, unhide HLS]; simp, unhide HROW3, unhide HBE3, unhide HBOX3⟩
            · have hsome : Hid (Hx.nextAt K ps r nx k = some t) := by
                show _ = _
                unfold Hx.nextAt
                rw [unhide HTT]
                simp only
                rw [if_pos (by rw [← unhide HMR]; simpa using hd)]
              have t0 : wc.cell? ⟨tb, 0, none⟩ = some (.int .i64 (t.x.lo : Int)) := blk_cell (unhide HTB3) 0
              have t1 : wc.cell? ⟨tb, 1, none⟩ = some (.int .i64 (t.x.hi : Int)) := blk_cell (unhide HTB3) 1
              have t2 : wc.cell? ⟨tb, 2, none⟩ = some (.bool t.x.rest) := blk_cell (unhide HTB3) 2
              have t3 : wc.cell? ⟨tb, 3, none⟩ = some (.int .i64 (t.x.mn : Int)) := blk_cell (unhide HTB3) 3
              have t4 : wc.cell? ⟨tb, 4, none⟩ = some (.int .i64 (t.x.mx : Int)) := blk_cell (unhide HTB3) 4
              have t5 : wc.cell? ⟨tb, 5, none⟩ = some (.int .i64 (t.pl : Int)) := blk_cell (unhide HTB3) 5
              have t6 : wc.cell? ⟨tb, 6, none⟩ = some (.int .i64 (t.no : Int)) := blk_cell (unhide HTB3) 6
              have t7 : wc.cell? ⟨tb, 7, none⟩ = some (.bool t.beg) := blk_cell (unhide HTB3) 7
              clear hd
              go_wp2_with (at_builtin; refine wpList_append_own _ rfl _ _ 87 rfl w.heap.size 83 i0 (.agg #[.int .i64 0, .int .i64 0, .bool false, .int .i64 0, .int .i64 0, .int .i64 0, .int .i64 0, .bool false]) 8 64 Tryd.underlying87 (unhide HI) (unhide HZ0) (unhide HZ1) (unhide HZ2) rfl (by decide) _ _ _ rfl ((unhide HROW3).alloc _) ⟨wc.heap.size, 0, none⟩ 1 1 (trnCells t) rfl rfl ?d1 ?d2 ?d3 ?d4 ?d5 ?_)
              case d1 => exact news_new wc (trnCells t) 83
              case d2 => exact trnCells_one _
              case d3 => unfold maxLen; omega
              case d4 => omega
              case d5 => have := (unhide HBE3).size; simp; omega
              · intro v' w3 hown' hgrow _
                have HOWN3 := hide hown'
                have HGROW := hide hgrow
                clear hown' hgrow
                go_wp2_with fail
                go_roundg (ps.length - (k + 1))
                case measure => omega
                case rel =>
                  refine ⟨k + 1, l ++ [t], by omega, rfl, by go_num, by rw [nextUp, unhide hsome, unhide HLS]; simp, ?_, (belA _ (unhide HBE3)).grown (unhide HGROW) (by have := (unhide HBE3).size; simp; omega) (fun k e => ((unhide HROW3).lt k e).1), ?_⟩
                  · show World.ownsRow _ _ _ _ _ _ _
                    rw [trnsCells_snoc, List.length_append]; exact unhide HOWN3
                  · exact blk_kept (bA _ (unhide HBOX3)) (unhide HGROW) (fun e => own_not_box (unhide HROW3) (unhide HBOX3) (by decide) e.symm)
    · have hke : k = ps.length := by omega
      have hfin : Hid (Hx.nxtF K ps r nx = l) := by show _ = _; rw [Hx.nxtF, unhide HLS, hke]
      clear hke
      have hkI : decide ((k : Int) < (ps.length : Int)) = false := by simp; omega
      go_wp2_with fail
      go_returns
      exact ⟨_, rfl, by rw [unhide hfin]; exact unhide HROW, unhide HBE⟩

end Go.Proofs.YtppcnlkhdgmaiaaDoor
