/- What the reader's call for a plate does: plate answers the plate's steps, in a slice of its own. -/
import Derived.Test.YtppcnlkhdgmaiaaGreatDoorRdC
import Derived.Deep.LoopGhost
namespace Go.Proofs.YtppcnlkhdgmaiaaGreatDoor
open Go.RowKit

theorem grown_own {w wr w1 : World} {row : Option Nat} {b : Nat} (h : w.grownBy wr (some b)) (k : wr.grownBy w1 row) (hr : ∀ k, row = some k → w.heap.size ≤ k) : w.grownBy w1 (some b) :=
  ⟨k.os.trans h.os, k.tape.trans h.tape, k.output.trans h.output, Nat.le_trans h.size k.size, fun i hi hne => (k.block i (Nat.lt_of_lt_of_le hi h.size) (fun e => by have := hr i e.symm; omega)).trans (h.block i hi hne)⟩
theorem own_ne {w : World} {base : Nat} {e : TypeId} {size : Nat} {v : Value} {n : Nat} {xs : List Value} {b : Nat} (h : w.ownsRow base e size v n xs) (hb : b < base) : v.ownBlock = none ∨ v.ownBlock ≠ some b :=
  Or.inr fun e => by have := (h.lt b e).1; omega
theorem news_new (w : World) (l : List Value) (T : TypeId) : ∀ (j : Nat) (u : Value), l[j]? = some u → (w.alloc (.cells l.toArray T)).cell? ((⟨w.heap.size, 0, none⟩ : Addr).add j) = some u := by
  intro j u hj
  have h := blk_cell (blk_new w l.toArray T) j
  simp only [List.getElem?_toArray] at h
  have e : (⟨w.heap.size, 0, none⟩ : Addr).add j = ⟨w.heap.size, j, none⟩ := by simp [Addr.add]; exact fun h => h.symm
  rw [e]
  exact h.trans hj

def accCells (acc : List Hx.Stp) : List Value := acc.flatMap stpCells
theorem accCells_snoc (acc : List Hx.Stp) (x : Hx.Stp) : accCells (acc ++ [x]) = accCells acc ++ stpCells x := by simp [accCells]
theorem accCells_len (acc : List Hx.Stp) : (accCells acc).length = acc.length * 5 := by
  induction acc with
  | nil => rfl
  | cons x r ih =>
    have e : accCells (x :: r) = stpCells x ++ accCells r := rfl
    rw [e, List.length_append, ih]
    simp [stpCells]; omega
theorem stpCells_one (x : Hx.Stp) : ∀ u ∈ stpCells x, u.oneCell' = true := by
  intro u hu
  simp [stpCells] at hu
  rcases hu with rfl | rfl | rfl | rfl | rfl <;> rfl

def mst (s : ByteArray) (st : Hx.St) : Nat := if st.bad = true then 0 else s.size - st.pos + 1

theorem Tryz.info57 : (Tryz.prog.info? 57).map (fun i => (i.zero, i.size, i.bytes)) = some (some (.agg #[.int .i64 0, .int .i64 0, .bool false, .int .i64 0, .int .i64 0]), 5, 40) := by kernel_rfl

set_option maxHeartbeats 2000000 in
theorem plate_any (s : ByteArray) (b : Nat) (st : Hx.St) (ni : Int) (n : Nat) (w : World) (hs : s.size ≤ 120) (hp : st.pos ≤ s.size) (hn : n ≤ 120) (hni : ni = (n : Int)) (hb : 1 < b) (ht : Tab w) (hr : Rd 139 s b st w) :
    Calls Tryz.prog 69 #[.pointer (some ⟨b, 0, none⟩), .int .i64 ni] w fun e w' => ∃ v, e = .returned v ∧ w'.ownsRow w.heap.size 57 5 v (Hx.plateF s n st).2.length (accCells (Hx.plateF s n st).2) ∧ (Hx.plateF s n st).2.length ≤ s.size + 1 ∧ Rd 139 s b (Hx.plateF s n st).1 w' ∧ w.grownBy w' (some b) := by
  have HT : Hid (Tab w) := ht
  have HR : Hid (Rd 139 s b st w) := hr
  have HB : Hid (b < w.heap.size) := hr.lt
  have HNI : Hid (ni = (n : Int)) := hni
  have HN : Hid (n ≤ 120) := hn
  clear ht hr hni hn
  obtain ⟨i0, hi, hz0, hz1, hz2⟩ := info_parts Tryz.info57
  have HI := hide hi
  have HZ0 := hide hz0
  have HZ1 := hide hz1
  have HZ2 := hide hz2
  clear hi hz0 hz1 hz2
  go_enter Tryz.func69, Tryz.ntmps69
  go_wp2_with fail
  refine (take_any s b st _ 59 _ (up1 hs) hp rfl (by omega) HR.out).mono ?_
  rintro e w1 ⟨rfl, hr1, hg1⟩
  have HR1 := hide hr1
  have HT1 : Hid (Tab w1) := HT.out.grown hb hg1
  have HG1 := hide hg1
  clear hr1 hg1
  go_wp2_with fail
  refine (letter_any s b _ _ n _ (up1 hs) (Hx.takeF_le (by omega) hp) HN.out HNI.out HT1.out (unhide HR1)).mono ?_
  rintro e w2 ⟨rfl, hr2, hg2⟩
  have HR2 := hide hr2
  have HT2 : Hid (Tab w2) := HT1.out.grown hb hg2
  have HG2 := hide (grown_trans (unhide HG1) hg2)
  clear hr2 hg2
  go_wp2_with fail
  refine (take_any s b _ _ 61 _ (up1 hs) (Hx.letterF_le (Hx.takeF_le (by omega) hp)) rfl (by omega) (unhide HR2)).mono ?_
  rintro e w3 ⟨rfl, hr3, hg3⟩
  have HR3 : Hid (Rd 139 s b (Hx.openF s n st) w3) := hr3
  have HT3 : Hid (Tab w3) := HT2.out.grown hb hg3
  have HG3 := hide (grown_trans (unhide HG2) hg3)
  clear hr3 hg3
  go_wp2_with fail
  refine (bounds_any s b (Hx.openF s n st) _ (up1 hs) (Hx.openF_le hp) hb HT3.out HR3.out).mono ?_
  rintro e w4 ⟨rfl, hr4, hg4⟩
  have HR4 : Hid (Rd 139 s b (Hx.boundsF s (Hx.openF s n st)).2 w4) := hr4
  have HT4 : Hid (Tab w4) := HT3.out.grown hb hg4
  have HG4 := hide (grown_trans (unhide HG3) hg4)
  clear hr4 hg4
  generalize hb0 : Hx.boundsF s (Hx.openF s n st) = r0 at HR4
  have HB0 := hide hb0
  clear hb0
  go_wp2_with fail
  have hown0 := World.ownsRow_lit (base := w.heap.size) (e := 57) (size := 5) w4 #[Value.int IntKind.i64 ↑r0.fst.lo, Value.int IntKind.i64 ↑r0.fst.hi, Value.bool false, Value.int IntKind.i64 0, Value.int IntKind.i64 0] 1 (unhide HG4).size (by unfold maxLen; omega) rfl
  have HOWN0 := hide hown0
  clear hown0
  go_loopg [5] (mst s r0.2) (fun gk v wr => ∃ (st' : Hx.St) (acc : List Hx.Stp), st'.pos ≤ s.size ∧ gk = mst s st' ∧ acc.length ≤ st'.pos + 1 ∧ wr.ownsRow w.heap.size 57 5 v acc.length (accCells acc) ∧ Rd 139 s b st' wr ∧ w.grownBy wr (some b) ∧ Hx.afterF s st' acc = Hx.plateF s n st)
  case atStart =>
    refine ⟨r0.2, [⟨r0.1.lo, r0.1.hi, false, 0, 0⟩], ?_, rfl, by simp, unhide HOWN0, Rd.alloc HR4.out _, grown_trans (unhide HG4) (grown_alloc _ _ _), ?_⟩
    · rw [← unhide HB0]; exact Hx.boundsF_le (Hx.openF_le hp)
    · rw [← unhide HB0]; rfl
  case round =>
    clear HR1 HR2 HR3 HR4 HT1 HT2 HT3 HT4 HG1 HG2 HG3 HG4 HB0 HOWN0 HNI HN
    obtain ⟨st', acc, hpos, rfl, hlen, hown, hrd, hgr, hfin⟩ := hrel
    have HOWN := hide hown
    have HRD := hide hrd
    have HGR := hide hgr
    have HFIN := hide hfin
    have HTR : Hid (Tab wr) := HT.out.grown hb hgr
    have c2 := hrd.c2
    have hsz : Hid (w.heap.size ≤ wr.heap.size) := hgr.size
    clear hown hrd hgr hfin
    obtain ⟨pos, bad⟩ := st'
    simp only at c2 hpos hlen
    cases bad
    · by_cases h44 : Hx.byteAt s pos = 44
      · have hk := hide (show ((Hx.kindOf (Hx.byteAt s pos) : Nat) : Int) = 5 by rw [(Hx.kindOf_five _).2 h44]; rfl)
        have HFIN2 := hide ((Hx.afterF_comma (st := ⟨pos, false⟩) (acc := acc) rfl h44).symm.trans (unhide HFIN))
        have hlt : pos < s.size := Hx.byteAt_in (by omega)
        have H44 := hide h44
        clear h44 HFIN
        go_wp2_with fail
        refine (kind_val s b ⟨pos, false⟩ _ _ (up1 hs) hpos (unhide hk) HTR.out (unhide HRD)).mono ?_
        rintro e w1 ⟨rfl, n1, rfl⟩
        go_wp2_with fail
        refine (take_any s b ⟨pos, false⟩ _ 44 _ (up1 hs) hpos rfl (by omega) (Rd.drewN (unhide HRD) _)).mono ?_
        rintro e w1 ⟨rfl, hr1, hg1⟩
        rw [Hx.takeF_yes rfl (unhide H44)] at hr1
        have HR1 := hide hr1
        have HT1 : Hid (Tab w1) := (Tab.drewN HTR.out _).grown hb hg1
        have HG1 := hide (grown_trans (grown_drewN wr _ _) hg1)
        clear hr1 hg1
        go_wp2_with fail
        refine (bounds_any s b ⟨pos + 1, false⟩ _ (up1 hs) (by show pos + 1 ≤ _; omega) hb HT1.out (unhide HR1)).mono ?_
        rintro e w2 ⟨rfl, hr2, hg2⟩
        have hge := Hx.boundsF_ge s ⟨pos + 1, false⟩
        have hle := Hx.boundsF_le (s := s) (st := ⟨pos + 1, false⟩) (by show pos + 1 ≤ _; omega)
        generalize hr : Hx.boundsF s ⟨pos + 1, false⟩ = r at hr2 hge hle HFIN2
        clear hr
        simp only at hge
        have HR2 := hide hr2
        have HG2 := hide (grown_trans (unhide HG1) hg2)
        have HOWN2 := hide ((unhide HOWN).kept (unhide HG2) (own_ne (unhide HOWN) HB.out))
        clear hr2 hg2 HOWN HRD HG1 HR1 HT1 HTR
        go_wp2_with (at_builtin; refine wpList_append_own _ rfl _ _ 112 rfl w.heap.size 57 i0 (.agg #[.int .i64 0, .int .i64 0, .bool false, .int .i64 0, .int .i64 0]) 5 40 Tryz.underlying112 (unhide HI) (unhide HZ0) (unhide HZ1) (unhide HZ2) rfl (by decide) _ _ _ rfl ((unhide HOWN2).alloc _) ⟨w2.heap.size, 0, none⟩ 1 1 (stpCells ⟨r.1.lo, r.1.hi, false, 0, 0⟩) rfl rfl ?c1 ?c2 ?c3 ?c4 ?c5 ?_)
        case c1 => exact news_new w2 (stpCells ⟨r.1.lo, r.1.hi, false, 0, 0⟩) 57
        case c2 => exact stpCells_one _
        case c3 => unfold maxLen; omega
        case c4 => omega
        case c5 => have := hsz.out; have := (unhide HG2).size; simp; omega
        · intro v' w3 hown' hgrow _
          have HOWN3 := hide hown'
          have HGROW := hide hgrow
          clear hown' hgrow
          go_wp2_with fail
          go_roundg (mst s r.2)
          case measure => simp only [mst]; split <;> simp <;> omega
          case rel =>
            refine ⟨r.2, acc ++ [⟨r.1.lo, r.1.hi, false, 0, 0⟩], hle, rfl, by simp; omega, ?_, ?_, ?_, unhide HFIN2⟩
            · rw [accCells_snoc, List.length_append]; exact unhide HOWN3
            · exact ((unhide HR2).alloc _).kept (unhide HGROW) (fun e => by rcases own_ne (unhide HOWN2) HB.out with h | h <;> simp_all)
            · exact grown_own (grown_trans (unhide HGR) (grown_trans (unhide HG2) (grown_alloc _ _ _))) (unhide HGROW) (fun k e => ((unhide HOWN2).lt k e).1)
      · by_cases h126 : Hx.byteAt s pos = 126
        · have hk := hide (show ((Hx.kindOf (Hx.byteAt s pos) : Nat) : Int) = 6 by rw [(Hx.kindOf_six _).2 h126]; rfl)
          have HFIN2 := hide ((Hx.afterF_rest (st := ⟨pos, false⟩) (acc := acc) rfl h126).symm.trans (unhide HFIN))
          have hlt : pos < s.size := Hx.byteAt_in (by omega)
          have hge := Hx.restF_ge s ⟨pos, false⟩
          rw [Hx.takeF_yes rfl h126] at hge
          have hle := Hx.restF_le (s := s) (st := ⟨pos, false⟩) hpos
          clear h44 h126 HFIN
          go_wp2_with fail
          refine (kind_val s b ⟨pos, false⟩ _ _ (up1 hs) hpos (unhide hk) HTR.out (unhide HRD)).mono ?_
          rintro e w1 ⟨rfl, n1, rfl⟩
          go_wp2_with fail
          refine (rest_any s b ⟨pos, false⟩ _ hs hpos hb (Tab.drewN HTR.out _) (Rd.drewN (unhide HRD) _)).mono ?_
          rintro e w2 ⟨rfl, hr2, hg2⟩
          generalize hr : Hx.restF s ⟨pos, false⟩ = r at hr2 hge hle HFIN2
          clear hr
          obtain ⟨⟨rlo, rhi, rrest, rmn, rmx⟩, rst⟩ := r
          simp only at hge hle hr2
          have HR2 := hide hr2
          have HG2 := hide (grown_trans (grown_drewN wr _ _) hg2)
          have HOWN2 := hide ((unhide HOWN).kept (unhide HG2) (own_ne (unhide HOWN) HB.out))
          clear hr2 hg2 HOWN HRD HTR
          simp only [stpCells]
          go_wp2_with (at_builtin; refine wpList_append_own _ rfl _ _ 112 rfl w.heap.size 57 i0 (.agg #[.int .i64 0, .int .i64 0, .bool false, .int .i64 0, .int .i64 0]) 5 40 Tryz.underlying112 (unhide HI) (unhide HZ0) (unhide HZ1) (unhide HZ2) rfl (by decide) _ _ _ rfl ((unhide HOWN2).alloc _) ⟨w2.heap.size, 0, none⟩ 1 1 (stpCells ⟨rlo, rhi, rrest, rmn, rmx⟩) rfl rfl ?d1 ?d2 ?d3 ?d4 ?d5 ?_)
          case d1 => exact fun _ _ h => h
          case d2 => exact stpCells_one _
          case d3 => unfold maxLen; omega
          case d4 => omega
          case d5 => have := hsz.out; have := (unhide HG2).size; simp; omega
          · intro v' w3 hown' hgrow _
            have HOWN3 := hide hown'
            have HGROW := hide hgrow
            clear hown' hgrow
            go_wp2_with fail
            go_roundg (mst s rst)
            case measure => simp only [mst]; split <;> simp <;> omega
            case rel =>
              refine ⟨rst, acc ++ [⟨rlo, rhi, rrest, rmn, rmx⟩], hle, rfl, by simp; omega, ?_, ?_, ?_, unhide HFIN2⟩
              · rw [accCells_snoc, List.length_append]; exact unhide HOWN3
              · exact ((unhide HR2).alloc _).kept (unhide HGROW) (fun e => by rcases own_ne (unhide HOWN2) HB.out with h | h <;> simp_all)
              · exact grown_own (grown_trans (unhide HGR) (grown_trans (unhide HG2) (grown_alloc _ _ _))) (unhide HGROW) (fun k e => ((unhide HOWN2).lt k e).1)
        · obtain ⟨kv, hkv, hk1, hk2⟩ : ∃ kv : Int, (Hx.kindOf (Hx.byteAt s pos) : Int) = kv ∧ (kv == 5) = false ∧ (kv == 6) = false := by
            refine ⟨_, rfl, ?_, ?_⟩
            · rw [beq_eq_false_iff_ne]; intro e; exact h44 ((Hx.kindOf_five (Hx.byteAt s pos)).1 (by omega))
            · rw [beq_eq_false_iff_ne]; intro e; exact h126 ((Hx.kindOf_six (Hx.byteAt s pos)).1 (by omega))
          have HKV : Hid ((Hx.kindOf (Hx.byteAt s pos) : Int) = kv) := hkv
          have hfin2 : Hid (((⟨pos, false⟩ : Hx.St), acc) = Hx.plateF s n st) := (Hx.afterF_stop h44 h126).symm.trans (unhide HFIN)
          clear h44 h126 hkv HFIN
          go_wp2_with fail
          refine (kind_val s b ⟨pos, false⟩ _ _ (up1 hs) hpos (unhide HKV) HTR.out (unhide HRD)).mono ?_
          rintro e w1 ⟨rfl, n1, rfl⟩
          go_wp2_with fail
          go_returns
          rw [← unhide hfin2]
          exact ⟨_, rfl, unhide HOWN, by show acc.length ≤ _; omega, unhide HRD, grown_trans (unhide HGR) (grown_drewN _ _ _)⟩
    · have hfin2 : Hid (((⟨pos, true⟩ : Hx.St), acc) = Hx.plateF s n st) := (Hx.afterF_bad rfl).symm.trans (unhide HFIN)
      go_wp2_with fail
      go_returns
      rw [← unhide hfin2]
      exact ⟨_, rfl, unhide HOWN, by show acc.length ≤ _; omega, unhide HRD, unhide HGR⟩

end Go.Proofs.YtppcnlkhdgmaiaaGreatDoor
