/- What the document's own Check does: its error and its place are those of the plain reading. -/
import Derived.Test.YtppcnlkhdgmaiabGreatDoorCRfE
import Derived.Test.YtppcnlkhdgmaiabGreatDoorCRfP
namespace Go.Proofs.YtppcnlkhdgmaiabGreatDoor
open Go.RowKit

set_option maxRecDepth 100000 in
set_option maxHeartbeats 8000000 in
theorem refcheck_any (s : ByteArray) (w : World) (hs : s.size ≤ maxLen) :
    Calls Tryz.prog 7 #[.string s] w fun e w' => e = .returned (.tuple #[.int .i64 ((Hx.checkF s).1 : Int), .int .i64 ((Hx.checkF s).2 : Int)]) ∧ Below w.heap.size w w' := by
  unfold maxLen at hs
  by_cases hlong : 120 < s.size
  · have hfin : Hid (Hx.checkF s = (1, 0)) := by show _ = _; simp [Hx.checkF, hlong]
    have hl' : (120 : Int) < (s.size : Int) := by omega
    clear hlong
    go_enter Tryz.func7, Tryz.ntmps7
    go_wp2_with fail
    go_returns
    exact ⟨by rw [unhide hfin]; rfl, Below.refl _ _⟩
  · have hl' : ¬ (120 : Int) < (s.size : Int) := by omega
    have hs120 : s.size ≤ 120 := by omega
    have HC : Hid (Hx.checkF s = if (Hx.protF s).1.bad = true then (2, (Hx.protF s).1.pos) else Hx.verdict (Hx.headK s).1 (Hx.protF s).2) := by show _ = _; rw [Hx.checkF, if_neg hlong]
    clear hlong
    go_enter Tryz.func7, Tryz.ntmps7
    go_wp2_with fail
    refine (protocol_any s _ hs120).mono ?_
    rintro e w1 ⟨hb1, h1⟩
    have HB1 := hide hb1
    clear hb1
    rcases h1 with ⟨hbad, a3, n3, c3, a4, rfl⟩ | ⟨hgood, v, rfl, hown, hlen, hlen2⟩
    · have hfin : Hid (Hx.checkF s = (2, (Hx.protF s).1.pos)) := by show _ = _; rw [unhide HC, if_pos hbad]
      clear hbad HC
      have hge : (0 : Int) ≤ ((Hx.protF s).1.pos : Int) := by omega
      go_wp2_with fail
      go_returns
      exact ⟨by rw [unhide hfin]; rfl, (unhide HB1).alloc (unhide HB1).size _⟩
    · have HV : Hid (Hx.checkF s = Hx.verdict (Hx.headK s).1 (Hx.protF s).2) := by show _ = _; rw [unhide HC, if_neg (by simp [hgood])]
      have hne : ∀ p ∈ (Hx.protF s).2, 0 < p.length := platesF_ne s _ [] (by simp)
      have hpos : 0 < (Hx.protF s).2.length := platesF_pos s _ [] hgood
      have hlp := Hx.labs_pos hpos hne
      clear hgood HC hne hpos
      generalize Hx.protF s = pr at *
      obtain ⟨pst, ps⟩ := pr
      simp only at hown hlen hlen2 HV hlp
      obtain ⟨g, cap, rfl, _, hg⟩ := own_pos hown hlp
      obtain ⟨l, hl⟩ : ∃ l, l = Hx.labs ps := ⟨_, rfl⟩
      rw [← hl] at hown hlen2 hlp ⊢
      have HLB := hide hl
      clear hl
      have HOWN := hide hown
      clear hown
      generalize (Hx.headJ s).1 = J at *
      generalize (Hx.headK s).1 = K at *
      generalize (Hx.headD s).1 = D at *
      go_wp2_with fail
      go_loopg [6] l.length (fun gk i wr => ∃ k : Nat, k ≤ l.length ∧ gk = l.length - k ∧ i = .int .i64 (k : Int) ∧ (∀ z ∈ l.take k, Hx.wrongB K z.x = false) ∧ Below w.heap.size w wr ∧ Below w1.heap.size w1 wr ∧ wr.heap[w1.heap.size]? = some (.cells #[.int .i64 (J : Int), .int .i64 (K : Int), .int .i64 (D : Int), .slice (some ⟨g, 0, none⟩) l.length cap, .int .i64 (ps.length : Int)] 49 (0, 0)))
      case atStart => exact ⟨0, Nat.zero_le _, rfl, rfl, by simp, (unhide HB1).alloc (unhide HB1).size _, (Below.refl _ _).alloc (Nat.le_refl _) _, blk_new _ _ _⟩
      case round =>
        obtain ⟨k, hk, rfl, rfl, hall, hbe, hbe1, hbox⟩ := hrel
        have p1 : wr.cell? ⟨w1.heap.size, 1, none⟩ = some (.int .i64 (K : Int)) := blk_cell hbox 1
        have p3 : wr.cell? ⟨w1.heap.size, 3, none⟩ = some (.slice (some ⟨g, 0, none⟩) l.length cap) := blk_cell hbox 3
        have HALL := hide hall
        have HBE := hide hbe
        have HBE1 := hide hbe1
        have HBOX := hide hbox
        clear hall hbe hbe1 hbox
        by_cases hlt : k < l.length
        · obtain ⟨y, hy⟩ : ∃ y, l[k]? = some y := ⟨l[k], List.getElem?_eq_getElem hlt⟩
          have HY := hide hy
          have cx : ∀ t, t < 10 → wr.cell? ⟨g, k * 10 + t, none⟩ = (lstCells y)[t]? := fun t ht => by
            rw [(unhide HBE1).cell (p := ⟨g, k * 10 + t, none⟩) hg]; exact own_lst (unhide HOWN) k y hy t ht
          obtain ⟨pl, no, lo, hi, rest, mn, mx⟩ := y
          have x0 : wr.cell? ⟨g, k * 10, none⟩ = some (.int .i64 (pl : Int)) := cx 0 (by omega)
          have x1 : wr.cell? ⟨g, k * 10 + 1, none⟩ = some (.int .i64 (no : Int)) := cx 1 (by omega)
          have x2 : wr.cell? ⟨g, k * 10 + 2, none⟩ = some (.int .i64 (lo : Int)) := cx 2 (by omega)
          have x3 : wr.cell? ⟨g, k * 10 + 3, none⟩ = some (.int .i64 (hi : Int)) := cx 3 (by omega)
          have x4 : wr.cell? ⟨g, k * 10 + 4, none⟩ = some (.bool rest) := cx 4 (by omega)
          have x5 : wr.cell? ⟨g, k * 10 + 5, none⟩ = some (.int .i64 (mn : Int)) := cx 5 (by omega)
          have x6 : wr.cell? ⟨g, k * 10 + 6, none⟩ = some (.int .i64 (mx : Int)) := cx 6 (by omega)
          have x7 : wr.cell? ⟨g, k * 10 + 7, none⟩ = some (.int .i64 0) := cx 7 (by omega)
          have x8 : wr.cell? ⟨g, k * 10 + 8, none⟩ = some (.int .i64 0) := cx 8 (by omega)
          have x9 : wr.cell? ⟨g, k * 10 + 9, none⟩ = some (.int .i64 0) := cx 9 (by omega)
          have p1a : (wr.alloc (.cells #[.int .i64 (pl : Int), .int .i64 (no : Int), .int .i64 (lo : Int), .int .i64 (hi : Int), .bool rest, .int .i64 (mn : Int), .int .i64 (mx : Int), .int .i64 0, .int .i64 0, .int .i64 0] 53)).cell? ⟨w1.heap.size, 1, none⟩ = some (.int .i64 (K : Int)) := (grown_alloc wr _ none).cell p1 (by simp)
          clear hy cx
          cases hw : Hx.wrongB K ⟨lo, hi, rest, mn, mx⟩
          · have HW := hide hw
            obtain ⟨h1, h2, h3⟩ := Hx.wrong_false hw
            clear hw
            rcases h3 with rfl | ⟨rfl, h4, h5⟩
            all_goals
              go_wp2_with fail
              go_roundg (l.length - (k + 1))
              case measure => omega
              case rel =>
                refine ⟨k + 1, by omega, rfl, by go_num, Hx.take_mem_snoc (unhide HY) (unhide HALL) (unhide HW), (unhide HBE).alloc (unhide HBE).size _, (unhide HBE1).alloc (unhide HBE1).size _, blk_kept (unhide HBOX) (grown_alloc wr _ none) (by simp)⟩
          · have hfin : Hid (Hx.checkF s = (3, k)) := by
              have hf := Hx.first_lab (ps := ps) (k := K) (j := k) (y := ⟨pl, no, lo, hi, rest, mn, mx⟩) (by rw [← unhide HLB]; exact unhide HY) (by rw [← unhide HLB]; exact unhide HALL) hw
              show _ = _
              rw [unhide HV, Hx.verdict, hf]
            rcases Hx.wrong_true hw with h1 | ⟨h1, h2⟩ | ⟨h1, h2, rfl, h3⟩ | ⟨h1, h2, rfl, h3, h4⟩
            all_goals
              clear hw
              go_wp2_with fail
              go_returns
              exact ⟨by rw [unhide hfin]; rfl, (unhide HBE).alloc (unhide HBE).size _⟩
        · have hke : k = l.length := by omega
          have HALL2 : Hid (∀ z ∈ l, Hx.wrongB K z.x = false) := by
            have := unhide HALL
            rw [hke, List.take_length] at this
            exact this
          have HV2 : Hid (Hx.checkF s = if Hx.manyB ps = true then (4, 0) else (0, 0)) := by
            have hf := Hx.first_lab_none (ps := ps) (k := K) (by rw [← unhide HLB]; exact unhide HALL2)
            show _ = _
            rw [unhide HV, Hx.verdict, hf]
          clear hke HALL HALL2 HV p1 hk
          go_wp2_with fail
          clear p3 hlt
          go_loopg [8] l.length (fun gk i wr2 => ∃ m : Nat, m ≤ l.length ∧ gk = l.length - m ∧ i = .int .i64 (m : Int) ∧ (∀ z ∈ l.take m, ¬ 5 ≤ z.no) ∧ Below w.heap.size w wr2 ∧ Below w1.heap.size w1 wr2 ∧ wr2.heap[w1.heap.size]? = some (.cells #[.int .i64 (J : Int), .int .i64 (K : Int), .int .i64 (D : Int), .slice (some ⟨g, 0, none⟩) l.length cap, .int .i64 (ps.length : Int)] 49 (0, 0)))
          case atStart => exact ⟨0, Nat.zero_le _, rfl, rfl, by simp, unhide HBE, unhide HBE1, unhide HBOX⟩
          case round =>
            clear HBE HBE1 HBOX
            obtain ⟨m, hm, rfl, rfl, hall, hbe, hbe1, hbox⟩ := hrel
            have q3 : wr.cell? ⟨w1.heap.size, 3, none⟩ = some (.slice (some ⟨g, 0, none⟩) l.length cap) := blk_cell hbox 3
            have q4 : wr.cell? ⟨w1.heap.size, 4, none⟩ = some (.int .i64 (ps.length : Int)) := blk_cell hbox 4
            have HALL := hide hall
            have HBE := hide hbe
            have HBE1 := hide hbe1
            have HBOX := hide hbox
            clear hall hbe hbe1 hbox
            by_cases hlt : m < l.length
            · obtain ⟨y, hy⟩ : ∃ y, l[m]? = some y := ⟨l[m], List.getElem?_eq_getElem hlt⟩
              have HY := hide hy
              have x1 : wr.cell? ⟨g, m * 10 + 1, none⟩ = some (.int .i64 (y.no : Int)) := by
                rw [(unhide HBE1).cell (p := ⟨g, m * 10 + 1, none⟩) hg]; exact own_lst (unhide HOWN) m y hy 1 (by omega)
              clear hy
              by_cases h5 : 5 ≤ y.no
              · have hfin : Hid (Hx.checkF s = (4, 0)) := by
                  have hmany := Hx.many_lab (ps := ps) (y := y) (by rw [← unhide HLB]; exact List.mem_of_getElem? (unhide HY)) h5
                  show _ = _
                  rw [unhide HV2, if_pos hmany]
                have h5' : (5 : Int) ≤ (y.no : Int) := by omega
                clear h5
                go_wp2_with fail
                go_returns
                exact ⟨by rw [unhide hfin]; rfl, unhide HBE⟩
              · have HH5 := hide h5
                have h5' : ¬ (5 : Int) ≤ (y.no : Int) := by omega
                clear h5
                go_wp2_with fail
                go_roundg (l.length - (m + 1))
                case measure => omega
                case rel => exact ⟨m + 1, by omega, rfl, by go_num, Hx.take_mem_snoc (unhide HY) (unhide HALL) (unhide HH5), unhide HBE, unhide HBE1, unhide HBOX⟩
            · have hme : m = l.length := by omega
              have hmany := Hx.many_lab_end (ps := ps) (by
                have := unhide HALL
                rw [hme, List.take_length] at this
                rw [← unhide HLB]; exact this)
              rw [← unhide HLB] at hmany
              have HM := hide hmany
              clear hmany hme
              by_cases h4 : 4 < ps.length
              · have hfin : Hid (Hx.checkF s = (4, 0)) := by show _ = _; rw [unhide HV2, if_pos (by rw [unhide HM]; simp [h4])]
                have h4' : (4 : Int) < (ps.length : Int) := by omega
                clear h4
                go_wp2_with fail
                go_returns
                exact ⟨by rw [unhide hfin]; rfl, unhide HBE⟩
              · have h4' : ¬ (4 : Int) < (ps.length : Int) := by omega
                by_cases h9 : 9 < l.length
                · have hfin : Hid (Hx.checkF s = (4, 0)) := by show _ = _; rw [unhide HV2, if_pos (by rw [unhide HM]; simp [h9])]
                  have h9' : (9 : Int) < (l.length : Int) := by omega
                  clear h4 h9
                  go_wp2_with fail
                  go_returns
                  exact ⟨by rw [unhide hfin]; rfl, unhide HBE⟩
                · have hfin : Hid (Hx.checkF s = (0, 0)) := by show _ = _; rw [unhide HV2, if_neg (by rw [unhide HM]; simp; omega)]
                  have h9' : ¬ (9 : Int) < (l.length : Int) := by omega
                  clear h4 h9
                  go_wp2_with fail
                  go_returns
                  exact ⟨by rw [unhide hfin]; rfl, unhide HBE⟩

end Go.Proofs.YtppcnlkhdgmaiabGreatDoor
