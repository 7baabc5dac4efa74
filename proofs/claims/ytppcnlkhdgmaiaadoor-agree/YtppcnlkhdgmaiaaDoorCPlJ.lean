/- What firstHopeless does: the step with which the first rest ends that no times can keep. What the iterator's closure does: it goes on behind a beginning, order by order. -/
import Derived.Test.YtppcnlkhdgmaiaaDoorCPlU
import Derived.Deep.RegionHeld3
import Derived.IntWalk
import Derived.Test.YtppcnlkhdgmaiaaDoorCPlI
import Derived.RangeFuncNested
import Derived.RangeFuncBound
import Derived.RangeFuncCalls
import Derived.RangeFuncLeaves
import Derived.Shelf.Abstract
import Derived.Shelf.RegionOpen
import Derived.OwnWalkIn
import Derived.TacticsInMore
import Derived.LoopNIn
import Derived.LoopIn
namespace Go.Proofs.YtppcnlkhdgmaiaaDoor
open Go.RowKit

namespace Hx
/-- No times keep this rest. -/
def hopeB (J : Nat) (a x : Stp) : Bool := x.rest && decide ((a.lo : Int) + x.mx - J < (J : Int) + a.hi + x.mn)
def tightAt (J : Nat) (L : List Lst) (i : Nat) : Bool :=
  match L[i]? with
  | none => false
  | some y => y.x.rest && match L[i - 1]? with | none => false | some a => hopeB J a.x y.x
def firstTight (J : Nat) (L : List Lst) : Option Nat := (List.range L.length).find? (tightAt J L)
def zeroT : Trn := ⟨⟨0, 0, false, 0, 0⟩, 0, 0, false⟩
def tightT (J : Nat) (ps : List (List Stp)) : Trn := match firstTight J (labs ps) with | some i => turnOfIdx ps i | none => zeroT
/-- Every number of the steps is of at most three digits. -/
def Small (ps : List (List Stp)) : Prop := ∀ q ∈ ps, ∀ x ∈ q, x.lo < 1000 ∧ x.hi < 1000 ∧ x.mn < 1000 ∧ x.mx < 1000
theorem tightAt_no {J : Nat} {ps : List (List Stp)} {p n : Nat} {q : List Stp} {x : Stp} (hq : ps[p]? = some q) (hx : q[n]? = some x) (hr : x.rest = false) : tightAt J (labs ps) (offP ps p + n) = false := by
  simp [tightAt, labs_at hq hx, hr]
theorem tightAt_at {J : Nat} {ps : List (List Stp)} {p n : Nat} {q : List Stp} {x a : Stp} (hq : ps[p]? = some q) (hx : q[n + 1]? = some x) (ha : q[n]? = some a) : tightAt J (labs ps) (offP ps p + (n + 1)) = hopeB J a x := by
  simp only [tightAt, labs_at hq hx]
  rw [show offP ps p + (n + 1) - 1 = offP ps p + n by omega, labs_at hq ha]
  simp [hopeB]
theorem firstTight_none {J : Nat} {ps : List (List Stp)} (h : ∀ i, i < offP ps ps.length → tightAt J (labs ps) i = false) : firstTight J (labs ps) = none := by
  rw [firstTight, List.find?_eq_none]
  intro i hi
  have := h i (by rw [offP_end]; simpa using hi)
  simp [this]
theorem firstTight_some {J : Nat} {L : List Lst} {k : Nat} (hk : k < L.length) (h : ∀ i, i < k → tightAt J L i = false) (hh : tightAt J L k = true) : firstTight J L = some k := by
  rw [firstTight, List.find?_eq_some_iff_append]
  refine ⟨hh, List.range k, (List.range (L.length - k - 1)).map (fun i => k + 1 + i), ?_, ?_⟩
  · have e : L.length = k + (1 + (L.length - k - 1)) := by omega
    conv => lhs; rw [e]
    rw [List.range_add, List.range_add]
    simp [List.range_succ, Function.comp_def]
    intro a _
    omega
  · intro i hi
    have := h i (by simpa using hi)
    simp [this]
end Hx

set_option maxRecDepth 100000 in
set_option maxHeartbeats 4000000 in
theorem hope_any (J K D : Nat) (v : Value) (base : Nat) (ps : List (List Hx.Stp)) (w : World) (hps : Plts w base v ps) (hn : 0 < ps.length) (hl : ps.length ≤ 121) (hf : Hx.Fine ps) (hsm : Hx.Small ps) (hJ : J < 10) :
    Calls Tryd.prog 32 #[.agg #[.int .i64 (J : Int), .int .i64 (K : Int), .int .i64 (D : Int), v]] w fun e w' => e = .returned (.tuple #[.agg (trnCells (Hx.tightT J ps)).toArray, .bool (Hx.firstTight J (Hx.labs ps)).isSome]) ∧ Below w.heap.size w w' := by
  have HPS := hide hps
  have HF := hide hf
  have HSM := hide hsm
  obtain ⟨g, cap, rfl, hg⟩ : ∃ g cap, v = .slice (some ⟨g, 0, none⟩) ps.length cap ∧ g < w.heap.size := by
    obtain ⟨vs, hvs, hpp⟩ := hps
    obtain ⟨g, cap, e, _, hg⟩ := own_pos hvs hn
    exact ⟨g, cap, e, hg⟩
  clear hps hf hsm
  go_enter Tryd.func32, Tryd.ntmps32
  go_wp2_with fail
  go_loopg [12] ps.length (fun gk i wr => ∃ k : Nat, k ≤ ps.length ∧ gk = ps.length - k ∧ i = .int .i64 (k : Int) ∧ (∀ i, i < Hx.offP ps k → Hx.tightAt J (Hx.labs ps) i = false) ∧ Below w.heap.size w wr ∧ wr.heap[w.heap.size]? = some (.cells #[.int .i64 (J : Int), .int .i64 (K : Int), .int .i64 (D : Int), .slice (some ⟨g, 0, none⟩) ps.length cap] 75 (0, 0)) ∧ wr.heap[w.heap.size + 1]? = some (.cells #[.int .i64 0, .int .i64 0, .bool false, .int .i64 0, .int .i64 0, .int .i64 0, .int .i64 0, .bool false] 83 (0, 0)))
  case atStart =>
    refine ⟨0, Nat.zero_le _, rfl, rfl, by simp [Hx.offP], ((Below.refl _ _).alloc (Nat.le_refl _) _).alloc (by simp) _, blk_kept (blk_new _ _ _) (grown_alloc _ _ none) (by simp), ?_⟩
    have h := blk_new (w.alloc (.cells #[.int .i64 (J : Int), .int .i64 (K : Int), .int .i64 (D : Int), .slice (some ⟨g, 0, none⟩) ps.length cap] 75)) #[.int .i64 0, .int .i64 0, .bool false, .int .i64 0, .int .i64 0, .int .i64 0, .int .i64 0, .bool false] 83
    rw [size_alloc_] at h
    exact h
  case round =>
    obtain ⟨k, hk, rfl, rfl, hall, hbe, hbox, hres⟩ := hrel
    have HALL := hide hall
    have HBE := hide hbe
    have HBOX := hide hbox
    have HRES := hide hres
    clear hall hbe hbox hres
    by_cases hlt : k < ps.length
    · obtain ⟨p, hp⟩ : ∃ p, ps[k]? = some p := ⟨ps[k], List.getElem?_eq_getElem hlt⟩
      obtain ⟨x0, r0, ep, hx0⟩ := unhide HF k p hp
      have hp0 : 0 < p.length := by rw [ep]; simp
      have HP0 : Hid (∀ x, p[0]? = some x → x.rest = false) := fun x hx => by rw [ep] at hx; simp at hx; rw [← hx]; exact hx0
      have HSP : Hid (∀ x ∈ p, x.lo < 1000 ∧ x.hi < 1000 ∧ x.mn < 1000 ∧ x.mx < 1000) := unhide HSM p (List.mem_of_getElem? hp)
      obtain ⟨g', cap', g2, cap2, e', _, _, hg2, _, hc, hq121, hst⟩ := (unhide HPS).plate hp hp0
      cases e'
      have cP : wr.cell? ⟨g, k, none⟩ = some (.slice (some ⟨g2, 0, none⟩) p.length cap2) := by
        rw [(unhide HBE).cell (p := ⟨g, k, none⟩) hg]; exact hc
      have HST := hide hst
      have HP := hide hp
      clear hst hp hc ep hx0
      go_wp2_with fail
      clear cP
      go_loopg [19] p.length (fun gk j wr2 => ∃ m : Nat, m ≤ p.length ∧ gk = p.length - m ∧ j = .int .i64 (m : Int) ∧ (∀ i, i < Hx.offP ps k + m → Hx.tightAt J (Hx.labs ps) i = false) ∧ Below w.heap.size w wr2 ∧ wr2.heap[w.heap.size]? = some (.cells #[.int .i64 (J : Int), .int .i64 (K : Int), .int .i64 (D : Int), .slice (some ⟨g, 0, none⟩) ps.length cap] 75 (0, 0)) ∧ wr2.heap[w.heap.size + 1]? = some (.cells #[.int .i64 0, .int .i64 0, .bool false, .int .i64 0, .int .i64 0, .int .i64 0, .int .i64 0, .bool false] 83 (0, 0)))
      case atStart => exact ⟨0, Nat.zero_le _, rfl, rfl, unhide HALL, unhide HBE, unhide HBOX, unhide HRES⟩
      case round =>
        clear HBE HBOX HRES
        obtain ⟨m, hm, rfl, rfl, hall2, hbe, hbox, hres⟩ := hrel
        have HALL2 := hide hall2
        have HBE := hide hbe
        have HBOX := hide hbox
        have HRES := hide hres
        clear hall2 hbe hbox hres
        by_cases hml : m < p.length
        · obtain ⟨x, hx⟩ : ∃ x, p[m]? = some x := ⟨p[m], List.getElem?_eq_getElem hml⟩
          have HX := hide hx
          have cx : ∀ t, t < 5 → wr.cell? ⟨g2, m * 5 + t, none⟩ = (stpCells x)[t]? := fun t ht => by
            rw [(unhide HBE).cell (p := ⟨g2, m * 5 + t, none⟩) hg2]; exact unhide HST m x hx t ht
          have x0 : wr.cell? ⟨g2, m * 5, none⟩ = some (.int .i64 (x.lo : Int)) := cx 0 (by omega)
          have x1 : wr.cell? ⟨g2, m * 5 + 1, none⟩ = some (.int .i64 (x.hi : Int)) := cx 1 (by omega)
          have x2 : wr.cell? ⟨g2, m * 5 + 2, none⟩ = some (.bool x.rest) := cx 2 (by omega)
          have x3 : wr.cell? ⟨g2, m * 5 + 3, none⟩ = some (.int .i64 (x.mn : Int)) := cx 3 (by omega)
          have x4 : wr.cell? ⟨g2, m * 5 + 4, none⟩ = some (.int .i64 (x.mx : Int)) := cx 4 (by omega)
          clear hx cx
          go_upto_region 7 with fail
          have HBX := hide (blk_new wr #[.int .i64 (x.lo : Int), .int .i64 (x.hi : Int), .bool x.rest, .int .i64 (x.mn : Int), .int .i64 (x.mx : Int)] 81)
          have HBOX1 := hide (blk_kept (unhide HBOX) (grown_alloc wr (.cells #[.int .i64 (x.lo : Int), .int .i64 (x.hi : Int), .bool x.rest, .int .i64 (x.mn : Int), .int .i64 (x.mx : Int)] 81) none) (by simp))
          have HRES1 := hide (blk_kept (unhide HRES) (grown_alloc wr (.cells #[.int .i64 (x.lo : Int), .int .i64 (x.hi : Int), .bool x.rest, .int .i64 (x.mn : Int), .int .i64 (x.mx : Int)] 81) none) (by simp))
          have HBE1 := hide ((unhide HBE).alloc (unhide HBE).size (.cells #[.int .i64 (x.lo : Int), .int .i64 (x.hi : Int), .bool x.rest, .int .i64 (x.mn : Int), .int .i64 (x.mx : Int)] 81))
          clear x0 x1 x2 x3 x4
          obtain ⟨xb, hxb⟩ : ∃ xb, xb = wr.heap.size := ⟨_, rfl⟩
          rw [← hxb] at HBX ⊢
          have HXB : Hid (w.heap.size ≤ xb) := by rw [hxb]; exact (unhide HBE).size
          clear hxb
          generalize wr.alloc (.cells #[.int .i64 (x.lo : Int), .int .i64 (x.hi : Int), .bool x.rest, .int .i64 (x.mn : Int), .int .i64 (x.mx : Int)] 81) = w1 at *
          have x2 : w1.cell? ⟨xb, 2, none⟩ = some (.bool x.rest) := blk_cell (unhide HBX) 2
          cases hr : x.rest
          · have hno := hide (Hx.tightAt_no (J := J) (unhide HP) (unhide HX) hr)
            rw [hr] at x2
            clear hr
            go_wp2_with fail
            go_roundg (p.length - (m + 1))
            case measure => omega
            case rel =>
              refine ⟨m + 1, by omega, rfl, by go_num, fun i hi => ?_, unhide HBE1, unhide HBOX1, unhide HRES1⟩
              by_cases e : i < Hx.offP ps k + m
              · exact unhide HALL2 i e
              · rw [show i = Hx.offP ps k + m by omega]; exact unhide hno
          · obtain ⟨mp, hmp⟩ : ∃ mp, m = mp + 1 := by
              cases m with
              | zero => have := unhide HP0 x (unhide HX); rw [hr] at this; cases this
              | succ m => exact ⟨m, rfl⟩
            obtain ⟨a, ha⟩ : ∃ a, p[mp]? = some a := ⟨p[mp], List.getElem?_eq_getElem (by omega)⟩
            have HTA := hide (Hx.tightAt_at (J := J) (unhide HP) (by rw [← hmp]; exact unhide HX) ha)
            obtain ⟨sx1, sx2, sx3, sx4⟩ := unhide HSP x (List.mem_of_getElem? (unhide HX))
            obtain ⟨sa1, sa2, sa3, sa4⟩ := unhide HSP a (List.mem_of_getElem? ha)
            rw [hr] at x2
            have cx : ∀ t, t < 5 → w1.cell? ⟨g2, mp * 5 + t, none⟩ = (stpCells a)[t]? := fun t ht => by
              rw [(unhide HBE1).cell (p := ⟨g2, mp * 5 + t, none⟩) hg2]; exact unhide HST mp a ha t ht
            have a0 : w1.cell? ⟨g2, mp * 5, none⟩ = some (.int .i64 (a.lo : Int)) := cx 0 (by omega)
            have a1 : w1.cell? ⟨g2, mp * 5 + 1, none⟩ = some (.int .i64 (a.hi : Int)) := cx 1 (by omega)
            have a2 : w1.cell? ⟨g2, mp * 5 + 2, none⟩ = some (.bool a.rest) := cx 2 (by omega)
            have a3 : w1.cell? ⟨g2, mp * 5 + 3, none⟩ = some (.int .i64 (a.mn : Int)) := cx 3 (by omega)
            have a4 : w1.cell? ⟨g2, mp * 5 + 4, none⟩ = some (.int .i64 (a.mx : Int)) := cx 4 (by omega)
            have x3 : w1.cell? ⟨xb, 3, none⟩ = some (.int .i64 (x.mn : Int)) := blk_cell (unhide HBX) 3
            have x4 : w1.cell? ⟨xb, 4, none⟩ = some (.int .i64 (x.mx : Int)) := blk_cell (unhide HBX) 4
            have j0 : w1.cell? ⟨w.heap.size, 0, none⟩ = some (.int .i64 (J : Int)) := blk_cell (unhide HBOX1) 0
            have HR := hide hr
            have HA := hide ha
            have hm0 : (0 : Int) ≤ (mp : Int) := by omega
            have hmi : (mp : Int) < (p.length : Int) := by omega
            have hmw : IntKind.i64.wrap ((m : Int) - 1) = (mp : Int) := by
              have : (m : Int) - 1 = (mp : Int) := by omega
              rw [this]
              exact IntWalk.i64_in _ ⟨by omega, by omega⟩
            have HMP := hide hmp
            clear cx ha hr hmp
            go_wp2_with fail
            go_cut [8] (fun s8 wc => ∃ sb, s8 = .pointer (some ⟨sb, 0, none⟩) ∧ wc.heap[sb]? = some (.cells #[.int .i64 ((J : Int) + a.hi + x.mn), .int .i64 ((a.lo : Int) + x.mx - J)] 79 (0, 0)) ∧ Below w.heap.size w wc ∧ wc.heap[w.heap.size]? = some (.cells #[.int .i64 (J : Int), .int .i64 (K : Int), .int .i64 (D : Int), .slice (some ⟨g, 0, none⟩) ps.length cap] 75 (0, 0)) ∧ wc.heap[w.heap.size + 1]? = some (.cells #[.int .i64 0, .int .i64 0, .bool false, .int .i64 0, .int .i64 0, .int .i64 0, .int .i64 0, .bool false] 83 (0, 0)))
            case first =>
              go_region_held3 (fun w' => w'.cell? ⟨w.heap.size, 0, none⟩ = some (.int .i64 (J : Int)) ∧ w'.cell? ⟨g2, mp * 5, none⟩ = some (.int .i64 (a.lo : Int)) ∧ w'.cell? ⟨g2, mp * 5 + 1, none⟩ = some (.int .i64 (a.hi : Int)) ∧ w'.cell? ⟨g2, mp * 5 + 2, none⟩ = some (.bool a.rest) ∧ w'.cell? ⟨g2, mp * 5 + 3, none⟩ = some (.int .i64 (a.mn : Int)) ∧ w'.cell? ⟨g2, mp * 5 + 4, none⟩ = some (.int .i64 (a.mx : Int)) ∧ w'.cell? ⟨xb, 3, none⟩ = some (.int .i64 (x.mn : Int)) ∧ w'.cell? ⟨xb, 4, none⟩ = some (.int .i64 (x.mx : Int))) (refine ⟨?_, ?_, ?_, ?_, ?_, ?_, ?_, ?_⟩ <;> (repeat (first | assumption | apply cD | apply cA)))
                (first | (go_at_call 48; refine (apart_any J a x.mn x.mx _ (by omega) sa1 sa2 sx3 sx4).mono ?_; rintro e w2 ⟨rfl, rfl⟩))
              all_goals
                go_wp2_with fail
                go_meet
                case rel =>
                  refine ⟨_, rfl, ?_, ?_, ?_, ?_⟩
                  · repeat (first | (refine bN _ _ ?_; simp; done) | apply bD | apply bA)
                  · repeat (first | exact unhide HBE1 | apply belD | apply belA)
                  · repeat (first | exact unhide HBOX1 | apply bD | apply bA)
                  · repeat (first | exact unhide HRES1 | apply bD | apply bA)
            case rest =>
              obtain ⟨sb, rfl, hsb, hbe2, hbox2, hres2⟩ := hcut
              clear a0 a1 a2 a3 a4 x2 x3 x4 j0 HBOX1 HRES1 HBX HBE1
              have s0 : wc.cell? ⟨sb, 0, none⟩ = some (.int .i64 ((J : Int) + a.hi + x.mn)) := blk_cell hsb 0
              have s1 : wc.cell? ⟨sb, 1, none⟩ = some (.int .i64 ((a.lo : Int) + x.mx - J)) := blk_cell hsb 1
              have HBE2 := hide hbe2
              have HBOX2 := hide hbox2
              have HRES2 := hide hres2
              clear hsb hbe2 hbox2 hres2
              by_cases htt : (a.lo : Int) + x.mx - J < (J : Int) + a.hi + x.mn
              · have hyes : Hid (Hx.tightAt J (Hx.labs ps) (Hx.offP ps k + m) = true) := by
                  show _ = _
                  rw [unhide HMP, unhide HTA]; simp [Hx.hopeB, unhide HR, htt]
                have hLlt : Hid (Hx.offP ps k + m < (Hx.labs ps).length) := Hx.getElem?_lt (Hx.labs_at (unhide HP) (unhide HX))
                have hfin : Hid (Hx.firstTight J (Hx.labs ps) = some (Hx.offP ps k + m)) := Hx.firstTight_some (unhide hLlt) (unhide HALL2) (unhide hyes)
                have hta : Hx.turnAt ps k m = some ⟨x, k, m, Hx.begB p m⟩ := by simp [Hx.turnAt, unhide HP, unhide HX]
                have htt2 : Hid (Hx.tightT J ps = ⟨x, k, m, Hx.begB p m⟩) := by
                  show _ = _
                  have := Hx.turnOfIdx_at (unhide HF) hta
                  simp only [Hx.idxT] at this
                  rw [Hx.tightT, unhide hfin]
                  exact this
                have HTA2 := hide hta
                have y0 : wc.cell? ⟨w.heap.size, 0, none⟩ = some (.int .i64 (J : Int)) := blk_cell (unhide HBOX2) 0
                have y1 : wc.cell? ⟨w.heap.size, 1, none⟩ = some (.int .i64 (K : Int)) := blk_cell (unhide HBOX2) 1
                have y2 : wc.cell? ⟨w.heap.size, 2, none⟩ = some (.int .i64 (D : Int)) := blk_cell (unhide HBOX2) 2
                have y3 : wc.cell? ⟨w.heap.size, 3, none⟩ = some (.slice (some ⟨g, 0, none⟩) ps.length cap) := blk_cell (unhide HBOX2) 3
                clear hta
                go_wp2_with fail
                have HPS2 : Hid (Plts wc base (.slice (some ⟨g, 0, none⟩) ps.length cap) ps) := (unhide HPS).below (unhide HBE2)
                refine (turn_any J K D _ base ps _ k m _ (unhide HPS2) (unhide HTA2)).mono ?_
                rintro e w3 ⟨rfl, hb3⟩
                have HRES3 := hide ((hb3.block _ (lt_of_block (unhide HRES2))).trans (unhide HRES2))
                have HBE3 := hide ((unhide HBE2).trans (hb3.mono (unhide HBE2).size))
                clear hb3 y0 y1 y2 y3 s0 s1
                have e0 : w3.cell? ⟨w.heap.size + 1, 0, none⟩ = some (.int .i64 0) := blk_cell (unhide HRES3) 0
                have e1 : w3.cell? ⟨w.heap.size + 1, 1, none⟩ = some (.int .i64 0) := blk_cell (unhide HRES3) 1
                have e2 : w3.cell? ⟨w.heap.size + 1, 2, none⟩ = some (.bool false) := blk_cell (unhide HRES3) 2
                have e3 : w3.cell? ⟨w.heap.size + 1, 3, none⟩ = some (.int .i64 0) := blk_cell (unhide HRES3) 3
                have e4 : w3.cell? ⟨w.heap.size + 1, 4, none⟩ = some (.int .i64 0) := blk_cell (unhide HRES3) 4
                have e5 : w3.cell? ⟨w.heap.size + 1, 5, none⟩ = some (.int .i64 0) := blk_cell (unhide HRES3) 5
                have e6 : w3.cell? ⟨w.heap.size + 1, 6, none⟩ = some (.int .i64 0) := blk_cell (unhide HRES3) 6
                have e7 : w3.cell? ⟨w.heap.size + 1, 7, none⟩ = some (.bool false) := blk_cell (unhide HRES3) 7
                have ef := blk_free (unhide HRES3)
                go_wp2_with fail
                refine bodyPost_ret (v := .tuple #[.agg #[.int .i64 (x.lo : Int), .int .i64 (x.hi : Int), .bool x.rest, .int .i64 (x.mn : Int), .int .i64 (x.mx : Int), .int .i64 (k : Int), .int .i64 (m : Int), .bool (Hx.begB p m)], .bool true]) (by simp [results, Tryd.results32, go_sem, e0, e1, e2, e3, e4, e5, e6, e7]) rfl ?_
                have hle : w.heap.size ≤ w.heap.size + 1 := by omega
                exact ⟨by rw [unhide htt2, unhide hfin]; rfl, (((((((((unhide HBE3).setCell hle _).setCell hle _).setCell hle _).setCell hle _).setCell hle _).setCell hle _).setCell hle _).setCell hle _)⟩
              · have hno : Hid (Hx.tightAt J (Hx.labs ps) (Hx.offP ps k + m) = false) := by
                  show _ = _
                  rw [unhide HMP, unhide HTA]; simp [Hx.hopeB, htt]
                have htt' : decide ((a.lo : Int) + x.mx - J < (J : Int) + a.hi + x.mn) = false := by simp; omega
                go_wp2_with fail
                go_roundg (p.length - (m + 1))
                case measure => omega
                case rel =>
                  refine ⟨m + 1, by omega, rfl, by go_num, fun i hi => ?_, unhide HBE2, unhide HBOX2, unhide HRES2⟩
                  by_cases e : i < Hx.offP ps k + m
                  · exact unhide HALL2 i e
                  · rw [show i = Hx.offP ps k + m by omega]; exact unhide hno
        · have hme : m = p.length := by omega
          have HNEW := hide (Hx.offP_succ (unhide HP))
          have HME := hide hme
          clear hme
          go_wp2_with fail
          go_roundg (ps.length - (k + 1))
          case measure => omega
          case rel =>
            refine ⟨k + 1, by omega, rfl, by go_num, ?_, unhide HBE, unhide HBOX, unhide HRES⟩
            rw [unhide HNEW, ← unhide HME]; exact unhide HALL2
    · have hke : k = ps.length := by omega
      have hfin : Hid (Hx.firstTight J (Hx.labs ps) = none) := Hx.firstTight_none (by
        have := unhide HALL
        rw [hke] at this
        exact this)
      clear hke
      have e0 : wr.cell? ⟨w.heap.size + 1, 0, none⟩ = some (.int .i64 0) := blk_cell (unhide HRES) 0
      have e1 : wr.cell? ⟨w.heap.size + 1, 1, none⟩ = some (.int .i64 0) := blk_cell (unhide HRES) 1
      have e2 : wr.cell? ⟨w.heap.size + 1, 2, none⟩ = some (.bool false) := blk_cell (unhide HRES) 2
      have e3 : wr.cell? ⟨w.heap.size + 1, 3, none⟩ = some (.int .i64 0) := blk_cell (unhide HRES) 3
      have e4 : wr.cell? ⟨w.heap.size + 1, 4, none⟩ = some (.int .i64 0) := blk_cell (unhide HRES) 4
      have e5 : wr.cell? ⟨w.heap.size + 1, 5, none⟩ = some (.int .i64 0) := blk_cell (unhide HRES) 5
      have e6 : wr.cell? ⟨w.heap.size + 1, 6, none⟩ = some (.int .i64 0) := blk_cell (unhide HRES) 6
      have e7 : wr.cell? ⟨w.heap.size + 1, 7, none⟩ = some (.bool false) := blk_cell (unhide HRES) 7
      have ef := blk_free (unhide HRES)
      go_wp2_with fail
      refine bodyPost_ret (v := .tuple #[.agg #[.int .i64 0, .int .i64 0, .bool false, .int .i64 0, .int .i64 0, .int .i64 0, .int .i64 0, .bool false], .bool false]) (by simp [results, Tryd.results32, go_sem, e0, e1, e2, e3, e4, e5, e6, e7]) rfl ?_
      have hle : w.heap.size ≤ w.heap.size + 1 := by omega
      exact ⟨by rw [Hx.tightT, unhide hfin]; rfl, (((((((((unhide HBE).setCell hle _).setCell hle _).setCell hle _).setCell hle _).setCell hle _).setCell hle _).setCell hle _).setCell hle _)⟩

end Go.Proofs.YtppcnlkhdgmaiaaDoor
namespace Go.Proofs.YtppcnlkhdgmaiaaDoor
open Go.RowKit

attribute [local go_sem] Oper.semAt_some

/-- What the caller holds is not disturbed where its own blocks are left alone. -/
def Abide (Cl : List (List Nat × Bool) → (Nat → Prop) → World → Prop) : Prop := ∀ pre P W W', Cl pre P W → (∀ x, P x → W'.heap[x]? = W.heap[x]?) → W.heap.size ≤ W'.heap.size → Cl pre P W'

/-- What a round answers, and what it leaves alone. -/
def YRes (w : World) (Cl Clx : List (List Nat × Bool) → (Nat → Prop) → World → Prop) (pre : List (List Nat × Bool)) (P : Nat → Prop) (sb : Option Nat) (W : World) (e : Ending) (W' : World) : Prop :=
  ∃ P', ((e = .returned (.bool true) ∧ Cl pre P' W') ∨ (e = .returned (.bool false) ∧ Clx pre P' W')) ∧ Below w.heap.size w W' ∧ W.heap.size ≤ W'.heap.size ∧
    (∀ x, x < W.heap.size → ¬ P x → W'.heap[x]? = W.heap[x]?) ∧ (∀ x, P' x → (P x ∨ sb = some x ∨ W.heap.size ≤ x) ∧ w.heap.size ≤ x ∧ x < W'.heap.size)
def YSaid (w : World) (c : Cx) (yl : Nat) (Cl Clx : List (List Nat × Bool) → (Nat → Prop) → World → Prop) : Prop :=
  ∀ (m : Nat) (pre : List (List Nat × Bool)) (o : List Nat) (fl : Bool) (sv : Value) (P : Nat → Prop) (W : World), Cl pre P W → Below w.heap.size w W → Trns W w.heap.size sv (o.map (Hx.turnOfIdx c.ps)) → (∀ i ∈ o, i < (Hx.labs c.ps).length) → o.length = (Hx.labs c.ps).length → (∀ x, sv.ownBlock = some x → ¬ P x) →
    YieldAt Fence.wide m Tryd.prog yl #[sv, .bool fl] W (YRes w Cl Clx (pre ++ [(o, fl)]) P sv.ownBlock W)

/-- What is known of the protocol. -/
structure GoodC (c : Cx) : Prop where
  fine : Hx.Fine c.ps
  small : Hx.Small c.ps
  rests : ∀ q ∈ c.ps, ∀ x ∈ q, x.rest = true → 1 ≤ c.K
  pos : 0 < c.ps.length
  le : c.ps.length ≤ 4
  all : (Hx.labs c.ps).length ≤ 9
  j : c.J < 10
  k : c.K < 10
theorem GoodC.some {c : Cx} (h : GoodC c) : 0 < (Hx.labs c.ps).length := by
  refine Hx.labs_pos h.pos fun p hp => ?_
  obtain ⟨i, hi⟩ := List.getElem?_of_mem hp
  obtain ⟨x, r, e, _⟩ := h.fine i p hi
  rw [e]; simp

/-- What the closure answers behind a beginning. -/
def GoRes (w : World) (c : Cx) (Cl Clx : List (List Nat × Bool) → (Nat → Prop) → World → Prop) (pre fs : List (List Nat × Bool)) (ts : List Hx.Trn) (r : Int) (nx : Nat → Nat) (u : Nat) (mv : Value) (P : Nat → Prop) (W : World) (e : Ending) (W' : World) : Prop :=
  ∃ P' mv', It w c W' ts r nx u mv' P' ∧ Frm c W P mv W' P' mv' ∧
    ((e = .returned (.bool true) ∧ Cl (pre ++ fs) P' W') ∨ (e = .returned (.bool false) ∧ ∃ q, q <+: fs ∧ Clx (pre ++ q) P' W'))
def GoSaid (w : World) (c : Cx) (yl : Nat) (Cl Clx : List (List Nat × Bool) → (Nat → Prop) → World → Prop) (d : Nat) : Prop :=
  ∀ (pre : List (List Nat × Bool)) (l : List Nat) (r : Int) (nx : Nat → Nat) (u : Nat) (mv : Value) (P : Nat → Prop) (W : World), It w c W (l.map (Hx.turnOfIdx c.ps)) r nx u mv P → Cl pre P W → Hx.endS c.K (Hx.labs c.ps) l 0 (fun _ => 0) = some (r, nx) → (∀ i ∈ l, i < (Hx.labs c.ps).length) → l.length + d = (Hx.labs c.ps).length → u + 4 * d ≤ 1000 →
    Calls Tryd.prog 68 (#[.func (.yield yl) #[] #[]] ++ c.ptrs) W (GoRes w c Cl Clx pre (Hx.flagL (Hx.allO c.K (Hx.labs c.ps) d l) u) (l.map (Hx.turnOfIdx c.ps)) r nx u mv P W)

theorem It.plts {w W : World} {c : Cx} {ts : List Hx.Trn} {r : Int} {nx : Nat → Nat} {u : Nat} {mv : Value} {P : Nat → Prop} {base : Nat} (h : It w c W ts r nx u mv P) (hp : Plts w base c.v c.ps) : Plts W base c.v c.ps := hp.below h.be

theorem own_of_kept {w w' : World} {base n size : Nat} {e : TypeId} {v : Value} {xs : List Value} (h : w.ownsRow base e size v n xs) (hk : ∀ x, v.ownBlock = some x → w'.heap[x]? = w.heap[x]?) : w'.ownsRow base e size v n xs := by
  rcases h with ⟨h1, ⟨e1, e2⟩ | ⟨g, cap, cur, rfl, h2, h3, h4⟩⟩
  · exact ⟨h1, Or.inl ⟨e1, e2⟩⟩
  · exact ⟨h1, Or.inr ⟨g, cap, cur, rfl, h2, (hk g rfl).trans h3, h4⟩⟩

/-- The one call of yield, at a whole order. -/
theorem leaf_yield {w : World} {c : Cx} {yl : Nat} {Cl Clx : List (List Nat × Bool) → (Nat → Prop) → World → Prop} {pre : List (List Nat × Bool)} {l : List Nat} {ts : List Hx.Trn} {r : Int} {nx : Nat → Nat} {u : Nat} {mv sv : Value} {P : Nat → Prop} {W1 W2 : World}
    (hY : YSaid w c yl Cl Clx) (hit : It w c W1 ts r nx u mv P) (hcl : Cl pre P W1) (hab : Abide Cl) (hsv : Trns W2 W1.heap.size sv ts) (hb : Below W1.heap.size W1 W2) (hts : ts = l.map (Hx.turnOfIdx c.ps)) (hin : ∀ i ∈ l, i < (Hx.labs c.ps).length) (hlen : l.length + 0 = (Hx.labs c.ps).length) (m : Nat) :
    YieldAt Fence.wide m Tryd.prog yl #[sv, .bool (decide (0 < u))] W2 fun e W3 => ∃ bb, e = .returned (.bool bb) ∧
      GoRes w c Cl Clx pre (Hx.flagL (Hx.allO c.K (Hx.labs c.ps) 0 l) u) ts r nx u mv P W1 (.returned (.bool bb)) W3 := by
  have hfl : Hx.flagL (Hx.allO c.K (Hx.labs c.ps) 0 l) u = [(l, decide (0 < u))] := rfl
  have hit2 := hit.below hb
  have hcl2 : Cl pre P W2 := hab pre P W1 W2 hcl (fun x hx => hb.block x (hit.sep x hx).2.1) hb.size
  have hsb : ∀ x, sv.ownBlock = some x → ¬ P x := fun x hx hp => by
    have h1 := (hsv.lt x hx).1
    have h2 := (hit.sep x hp).2.1
    omega
  refine YieldAt.mono (hY m pre l (decide (0 < u)) sv P W2 hcl2 hit2.be (by rw [← hts]; exact own_mono hsv hit.be.size) hin (by omega) hsb) ?_
  rintro e W3 ⟨P', hce, hbe, hsz, hk, hp'⟩
  have hex : ∃ bb, e = .returned (.bool bb) := by
    rcases hce with ⟨rfl, _⟩ | ⟨rfl, _⟩
    · exact ⟨true, rfl⟩
    · exact ⟨false, rfl⟩
  obtain ⟨bb, rfl⟩ := hex
  refine ⟨bb, rfl, P', mv, ?_, ?_, ?_⟩
  · have kb : ∀ {x : Nat} {y : Array Value} {t : TypeId} {f : Nat × Nat}, W2.heap[x]? = some (.cells y t f) → ¬ P x → W3.heap[x]? = some (.cells y t f) := fun hx hn => (hk _ (lt_of_block hx) hn).trans hx
    have np : ∀ {x : Nat}, (∀ y, P y → y ≠ x) → ¬ P x := fun h hx => h _ hx rfl
    have hg : ∀ {base n size : Nat} {e : TypeId} {v : Value} {xs : List Value}, W2.ownsRow base e size v n xs → (∀ x, v.ownBlock = some x → ¬ P x) → W3.ownsRow base e size v n xs := fun h hn => own_of_kept h (fun x hx => hk x (h.lt x hx).2 (hn x hx))
    refine ⟨hbe, kb hit2.cp (np fun y hy => (hit2.sep y hy).2.2.1), kb hit2.cd (np fun y hy => (hit2.sep y hy).2.2.2.1), hg hit2.rd (fun x hx => by cases hx; exact np fun y hy => (hit2.sep y hy).2.2.2.2.2.2.2.2.1), kb hit2.cr (np fun y hy => (hit2.sep y hy).2.2.2.2.1), kb hit2.cm (np fun y hy => (hit2.sep y hy).2.2.2.2.2.1),
      hg hit2.rm (fun x hx hp => (hit2.sep x hp).2.2.2.2.2.2.2.2.2 hx), kb hit2.cu (np fun y hy => (hit2.sep y hy).2.2.2.2.2.2.1), kb hit2.cg (np fun y hy => (hit2.sep y hy).2.2.2.2.2.2.2.1), hit2.lo, hit2.ne, fun x hx => ?_⟩
    obtain ⟨h1, h2, h3⟩ := hp' x hx
    have hnew : P x ∨ W1.heap.size ≤ x := by
      rcases h1 with h1 | h1 | h1
      · exact Or.inl h1
      · exact Or.inr (hsv.lt x h1).1
      · exact Or.inr (Nat.le_trans hb.size h1)
    refine ⟨h2, h3, ?_⟩
    rcases hnew with hp | hp
    · exact (hit2.sep x hp).2.2
    · have q1 := lt_of_block hit.cp
      have q2 := lt_of_block hit.cd
      have q3 := lt_of_block hit.cr
      have q4 := lt_of_block hit.cm
      have q5 := lt_of_block hit.cu
      have q6 := lt_of_block hit.cg
      have q7 := (hit.rd.lt c.b.gd rfl).2
      refine ⟨by omega, by omega, by omega, by omega, by omega, by omega, by omega, fun e => ?_⟩
      have := (hit.rm.lt x e).2
      omega
  · refine ⟨Nat.le_trans hb.size hsz, fun x hx hp _ _ _ _ _ => (hk x (Nat.lt_of_lt_of_le hx hb.size) hp).trans (hb.block x hx), fun x hx => ?_, fun x hx => Or.inl hx⟩
    rcases (hp' x hx).1 with h1 | h1 | h1
    · exact Or.inl h1
    · exact Or.inr (hsv.lt x h1).1
    · exact Or.inr (Nat.le_trans hb.size h1)
  · rw [hfl]
    rcases hce with ⟨e, h⟩ | ⟨e, h⟩
    · exact Or.inl ⟨e, h⟩
    · exact Or.inr ⟨e, _, List.prefix_refl _, h⟩

set_option maxRecDepth 100000 in
set_option maxHeartbeats 8000000 in
theorem go_leaf (w : World) (c : Cx) (yl base : Nat) (Cl Clx : List (List Nat × Bool) → (Nat → Prop) → World → Prop) (hps : Plts w base c.v c.ps) (hgood : GoodC c) (hab : Abide Cl) (hY : YSaid w c yl Cl Clx) : GoSaid w c yl Cl Clx 0 := by
  intro pre l r nx u mv P W hit hcl hend hin hlen hu
  have hsf : Hx.Sofar c.K c.ps l r nx := by simpa using Hx.Sofar.of_end hgood.fine l [] 0 _ r nx (Hx.Sofar.start c.K hgood.fine) hend
  have hnil : Hx.nxtF c.K c.ps r nx = [] := Hx.nxtF_nil hsf (by omega)
  have hpos := hgood.some
  have hl0 : 0 < (l.map (Hx.turnOfIdx c.ps)).length := by rw [List.length_map]; omega
  have hl9 : (l.map (Hx.turnOfIdx c.ps)).length ≤ 1000 := by rw [List.length_map]; have := hgood.all; omega
  have hr1 : -1000 ≤ r ∧ r ≤ 1000 := by
    have h1 := hsf.top
    have h2 := hgood.k
    have h3 := hsf.rst
    have h4 : 0 ≤ r := by
      rw [← h3]
      have := Hx.sumR_le (f := fun _ => 0) (g := fun p => if Hx.under c.ps nx p then 1 else 0) c.ps.length (fun a _ => by split <;> simp)
      have h5 : ∀ m, Hx.sumR (fun _ => 0) m = 0 := fun m => by induction m with | zero => rfl | succ m ih => rw [Hx.sumR, ih]; rfl
      rw [h5] at this; exact this
    constructor <;> omega
  have HIT := hide hit
  have HCL := hide hcl
  have HIN := hide hin
  have HSF := hide hsf
  have HNIL := hide hnil
  have HPS := hide hps
  have HGOOD := hide hgood
  have HAB := hide hab
  have HY := hide hY
  obtain ⟨ts, hts⟩ : ∃ ts, ts = l.map (Hx.turnOfIdx c.ps) := ⟨_, rfl⟩
  have hpsn := hgood.pos
  have hps4 := hgood.le
  rw [← hts] at hl0 hl9 HIT ⊢
  have HTS := hide hts
  have HLEN := hide hlen
  clear hit hcl hend hin hsf hnil hps hgood hab hY hts hlen
  obtain ⟨J, K, D, v, ps, b⟩ := c
  obtain ⟨ao, capv, rfl⟩ : ∃ ao cap, v = .slice ao ps.length cap := by
    obtain ⟨vs, h1, _⟩ := unhide HPS
    exact own_form h1
  have p0 : W.cell? ⟨b.p, 0, none⟩ = some (.int .i64 (J : Int)) := blk_cell (unhide HIT).cp 0
  have p1 : W.cell? ⟨b.p, 1, none⟩ = some (.int .i64 (K : Int)) := blk_cell (unhide HIT).cp 1
  have p2 : W.cell? ⟨b.p, 2, none⟩ = some (.int .i64 (D : Int)) := blk_cell (unhide HIT).cp 2
  have p3 : W.cell? ⟨b.p, 3, none⟩ = some (.slice ao ps.length capv) := blk_cell (unhide HIT).cp 3
  have d0 : W.cell? ⟨b.d, 0, none⟩ = some (.slice (some ⟨b.gd, 0, none⟩) ps.length ps.length) := blk_cell (unhide HIT).cd 0
  have r0 : W.cell? ⟨b.r, 0, none⟩ = some (.int .i64 r) := blk_cell (unhide HIT).cr 0
  have hargs : #[Value.func (.yield yl) #[] #[]] ++ Cx.ptrs ⟨J, K, D, .slice ao ps.length capv, ps, b⟩ = #[.func (.yield yl) #[] #[], .pointer (some ⟨b.p, 0, none⟩), .pointer (some ⟨b.d, 0, none⟩), .pointer (some ⟨b.r, 0, none⟩), .pointer (some ⟨b.m, 0, none⟩), .pointer (some ⟨b.u, 0, none⟩), .pointer (some ⟨b.g, 0, none⟩)] := rfl
  rw [hargs]
  clear hargs
  generalize hR : GoRes w ⟨J, K, D, .slice ao ps.length capv, ps, b⟩ Cl Clx pre (Hx.flagL (Hx.allO K (Hx.labs ps) 0 l) u) ts r nx u mv P W = R
  have HR := hide hR
  clear hR
  go_enter Tryd.func68, Tryd.ntmps68
  go_wp2_with fail
  refine (next_any J K D _ _ base ps r nx _ ((unhide HIT).plts (unhide HPS)) hpsn (by show ps.length ≤ 121; have : ps.length ≤ 4 := hps4; omega) (unhide HGOOD).fine (unhide HIT).rd (unhide HSF).le hr1.1 hr1.2).mono ?_
  rintro e W1 ⟨nv, rfl, hnv, hb1⟩
  have hnil' : Hx.nxtF K ps r nx = [] := unhide HNIL
  rw [hnil'] at hnv
  obtain ⟨an, capn, rfl⟩ := own_form hnv
  have HIT1 := hide ((unhide HIT).below hb1)
  have HCL1 : Hid (Cl pre P W1) := unhide HAB pre P W W1 (unhide HCL) (fun x hx => hb1.block x ((unhide HIT).sep x hx).2.1) hb1.size
  have HF1 : Hid (Frm ⟨J, K, D, .slice ao ps.length capv, ps, b⟩ W P mv W1 P mv) := Frm.below P mv hb1
  clear hnv hb1 p0 p1 p2 p3 d0 r0 hnil'
  obtain ⟨gm, capm, rfl, _, hgm⟩ := own_pos (unhide HIT1).rm hl0
  have m0 : W1.cell? ⟨b.m, 0, none⟩ = some (.slice (some ⟨gm, 0, none⟩) ts.length capm) := blk_cell (unhide HIT1).cm 0
  have u0 : W1.cell? ⟨b.u, 0, none⟩ = some (.int .i64 (u : Int)) := blk_cell (unhide HIT1).cu 0
  go_wp2_with fail
  have hfo : Tryd.prog.follows .mixedOrders = true := by kernel_rfl
  refine (wpIn_wide (n := 5)).1 ?_
  gi_region_with_o (first
    | ((try refine ⟨by simp [Fence.wide], ?_⟩); gi_at_call 70; refine (callsIn_wide.2 (clone_any _ ts _ ?_ hl0 hl9)).mono ?_; (exact (unhide HIT1).rm); rintro e W2 ⟨sv, rfl, hsv, hb2⟩; have u2 : W2.cell? ⟨b.u, 0, none⟩ = some (.int .i64 (u : Int)) := (hb2.cell (p := ⟨b.u, 0, none⟩) (lt_of_block (unhide HIT1).cu)).trans u0; have HB2 := hide hb2; have HSV := hide hsv; obtain ⟨fn, tmps, assign, body, hy, hR⟩ := leaf_yield (unhide HY) (unhide HIT1) (unhide HCL1) (unhide HAB) hsv ((Below.refl W1.heap.size W1).drew.trans hb2) (unhide HTS) (unhide HIN) (unhide HLEN) (5 - 1); clear hsv hb2)
    | ((try refine ⟨by simp, ?_⟩); refine hR.mono ?_; clear hR; rintro e W3 ⟨bb, rfl, hres⟩))
  all_goals
    have HRES := hide hres
    clear hres
    go_wp2_with fail
    go_returns
    rw [← unhide HR]
    obtain ⟨P', mv', h1, h2, h3⟩ := unhide HRES
    exact ⟨P', mv', h1, (unhide HF1).trans h2, h3⟩

end Go.Proofs.YtppcnlkhdgmaiaaDoor
