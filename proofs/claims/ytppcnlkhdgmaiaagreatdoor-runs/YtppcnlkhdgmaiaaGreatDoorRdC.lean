/- What the reader's calls for a rest and a plate do: restAndStep, plate. -/
import Derived.Test.YtppcnlkhdgmaiaaGreatDoorRdB
import Derived.Deep.RegionWith
namespace Go.Proofs.YtppcnlkhdgmaiaaGreatDoor
open Go.RowKit

/-- A step's five cells. -/
def stpCells (x : Hx.Stp) : List Value := [.int .i64 (x.lo : Int), .int .i64 (x.hi : Int), .bool x.rest, .int .i64 (x.mn : Int), .int .i64 (x.mx : Int)]

theorem grown_of_drew {w w' : World} {row : Option Nat} (h : w.drew.grownBy w' row) : w.grownBy w' row := ⟨h.os, h.tape, h.output, h.size, h.block⟩

theorem cells2 {w w' : World} {k b : Nat} {v0 v1 : Value} {T : TypeId} (h : Hid (w.heap[k]? = some (.cells #[v0, v1] T (0, 0)))) (hg : w.grownBy w' (some b)) (hne : k ≠ b) :
    w'.cell? ⟨k, 0, none⟩ = some v0 ∧ w'.cell? ⟨k, 1, none⟩ = some v1 := by
  have h2 := blk_kept (unhide h) hg (by simpa using hne)
  exact ⟨blk_cell h2 0, blk_cell h2 1⟩
theorem cells5 {w w' : World} {k b : Nat} {v0 v1 v2 v3 v4 : Value} {T : TypeId} (h : Hid (w.heap[k]? = some (.cells #[v0, v1, v2, v3, v4] T (0, 0)))) (hg : w.grownBy w' (some b)) (hne : k ≠ b) :
    (w'.cell? ⟨k, 0, none⟩ = some v0 ∧ w'.cell? ⟨k, 1, none⟩ = some v1 ∧ w'.cell? ⟨k, 2, none⟩ = some v2 ∧ w'.cell? ⟨k, 3, none⟩ = some v3 ∧ w'.cell? ⟨k, 4, none⟩ = some v4) ∧ ∀ o, w'.frozen? ⟨k, o, none⟩ = false := by
  have h2 := blk_kept (unhide h) hg (by simpa using hne)
  exact ⟨⟨blk_cell h2 0, blk_cell h2 1, blk_cell h2 2, blk_cell h2 3, blk_cell h2 4⟩, blk_free h2⟩

set_option maxHeartbeats 1000000 in
theorem rest_any (s : ByteArray) (b : Nat) (st : Hx.St) (w : World) (hs : s.size ≤ 120) (hp : st.pos ≤ s.size) (hb : 1 < b) (ht : Tab w) (hr : Rd 139 s b st w) :
    Calls Tryz.prog 90 #[.pointer (some ⟨b, 0, none⟩)] w fun e w' => e = .returned (.agg (stpCells (Hx.restF s st).1).toArray) ∧ Rd 139 s b (Hx.restF s st).2 w' ∧ w.grownBy w' (some b) := by
  have HT : Hid (Tab w) := ht
  have HR : Hid (Rd 139 s b st w) := hr
  have HB : Hid (b < w.heap.size) := hr.lt
  clear ht hr
  go_enter Tryz.func90, Tryz.ntmps90
  go_wp2_with fail
  refine (take_any s b st _ 126 _ (up1 hs) hp rfl (by omega) (Rd.alloc HR.out _)).mono ?_
  rintro e w1 ⟨rfl, hr1, hg1⟩
  have HR1 := hide hr1
  have HT1 : Hid (Tab w1) := (Tab.alloc HT.out _).grown hb hg1
  have HB1 := hide (blk_kept (blk_new w #[.int .i64 0, .int .i64 0, .bool false, .int .i64 0, .int .i64 0] 57) hg1 (by have := HB.out; simp; omega))
  have HG1 := hide (grown_trans (grown_alloc w _ _) hg1)
  clear hr1 hg1
  go_wp2_with fail
  refine (bounds_any s b _ _ (up1 hs) (Hx.takeF_le (by omega) hp) hb HT1.out (unhide HR1)).mono ?_
  rintro e w2 ⟨rfl, hr2, hg2⟩
  have HR2 := hide hr2
  have HT2 : Hid (Tab w2) := HT1.out.grown hb hg2
  have HB2 := hide (blk_kept (unhide HB1) hg2 (by have := HB.out; simp; omega))
  have HG2 := hide (grown_trans (unhide HG1) hg2)
  clear hr2 hg2
  go_wp2_with fail
  have HP2 : Hid ((Hx.boundsF s (Hx.takeF s 126 st)).2.pos ≤ s.size) := Hx.boundsF_le (Hx.takeF_le (by omega) hp)
  refine (take_any s b _ _ 126 _ (up1 hs) HP2.out rfl (by omega) (Rd.alloc (unhide HR2) _)).mono ?_
  rintro e w3 ⟨rfl, hr3, hg3⟩
  have HR3 := hide hr3
  have HT3 : Hid (Tab w3) := (Tab.alloc HT2.out _).grown hb hg3
  have HB3 := hide (blk_kept (blk_kept (unhide HB2) (grown_alloc w2 _ none) (by simp)) hg3 (by have := HB.out; simp; omega))
  have HB2' : Hid (b < w2.heap.size) := (unhide HR2).lt
  have HL3 := blk_kept (blk_new w2 #[.int .i64 ((Hx.boundsF s (Hx.takeF s 126 st)).1.lo : Int), .int .i64 ((Hx.boundsF s (Hx.takeF s 126 st)).1.hi : Int)] 55) hg3 (by have := HB2'.out; simp; omega)
  have HG3 := hide (grown_trans (unhide HG2) (grown_trans (grown_alloc w2 _ _) hg3))
  have c0 := blk_cell HL3 0
  have c1 := blk_cell HL3 1
  simp only [List.getElem?_toArray, List.getElem?_cons_zero, List.getElem?_cons_succ] at c0 c1
  have HL3' := hide HL3
  clear hr3 hg3 HL3
  have HP3 : Hid ((Hx.takeF s 126 (Hx.boundsF s (Hx.takeF s 126 st)).2).pos ≤ s.size) := Hx.takeF_le (by omega) HP2.out
  go_wp2_with fail
  go_region_with (go_at_call 89; refine (bounds_any s b (Hx.takeF s 126 (Hx.boundsF s (Hx.takeF s 126 st)).2) _ (up1 hs) HP3.out hb (by exact HT3.out) (by exact (unhide HR3))).mono ?_; rintro e w4 ⟨rfl, hr4, hg4⟩; have HR4 := hide hr4; have HG4 := hide (grown_of_drew hg4); clear hr4 hg4; obtain ⟨d0, d1⟩ := cells2 HL3' (unhide HG4) (by have := HB2'.out; omega); obtain ⟨⟨r0, r1, r2, r3, r4⟩, rf⟩ := cells5 HB3 (unhide HG4) (by have := HB.out; omega))
  all_goals
    go_wp2_with fail
    refine bodyPost_ret (v := .agg (stpCells (Hx.restF s st).1).toArray) (by simp [results, Tryz.results90, go_sem, r0, r1, r2, r3, r4, stpCells, Hx.restF]) rfl ?_
    refine ⟨rfl, ?_, ?_⟩
    · have hk : w.heap.size ≠ b := by have := HB.out; omega
      exact Rd.set_other (Rd.set_other (Rd.set_other (Rd.set_other (Rd.set_other (unhide HR4) hk _ _) hk _ _) hk _ _) hk _ _) hk _ _
    · have hle := Nat.le_refl w.heap.size
      exact grown_set_new (grown_set_new (grown_set_new (grown_set_new (grown_set_new (grown_trans (unhide HG3) (unhide HG4)) hle _ _) hle _ _) hle _ _) hle _ _) hle _ _

end Go.Proofs.YtppcnlkhdgmaiaaGreatDoor
