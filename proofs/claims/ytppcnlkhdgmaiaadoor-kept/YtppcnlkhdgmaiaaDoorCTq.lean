/- What hatchkeep's whole answers: that the entries have each step of a plan once, as it is, in its plate's order. The plain mathematics of what Plan tells: it has each step of the plan once. The plain mathematics of what Plan tells: its times hold whatever the clock and the steps do. What hatchkeep's robust answers: that the times hold whatever the clock and the steps do. What hatchkeep's tight answers: the first rest that no times keep. The plain mathematics of Kept: what Plan answers of a plan's text, by whether a rest is hopeless. -/
import Derived.Test.YtppcnlkhdgmaiaaDoorCPlC
import Derived.Test.YtppcnlkhdgmaiaaDoorCSm
import Derived.Deep.DeepCutAuto
import Derived.Test.YtppcnlkhdgmaiaaDoorCPlB
namespace Go.Proofs.YtppcnlkhdgmaiaaDoor
open Go.RowKit

/-- A table has each step of a plan once, as it is, in its plate's order. -/
structure Hx.WholeP (L : List Hx.Lst) (l : List Hx.TStp) : Prop where
  len : l.length = L.length
  pl : ∀ (k : Nat) (z : Hx.TStp), l[k]? = some z → z.pl < 4 ∧ z.no = (Hx.holdF (l.take k) z.pl).2
  st : ∀ (k : Nat) (z : Hx.TStp), l[k]? = some z → ∃ (i : Nat) (y : Hx.Lst), L[i]? = some y ∧ y.pl = z.pl ∧ y.no = z.no ∧ y.x.lo = z.lo ∧ y.x.hi = z.hi ∧ y.x.mn = z.mn ∧ y.x.mx = z.mx ∧ y.x.rest = decide (0 ≤ z.out)
  un : ∀ (i j : Nat) (y z : Hx.Lst), L[i]? = some y → L[j]? = some z → y.pl = z.pl → y.no = z.no → i = j
theorem arw_cell {w : World} {g : Nat} {zs : List Int} {T : TypeId} (h : w.heap[g]? = some (.cells (ints zs).toArray T (0, 0))) {j : Nat} (hj : j < zs.length) : w.cell? ⟨g, j, none⟩ = some (.int .i64 (zs.getD j 0)) := by
  rw [blk_cell h j]
  simp [ints, hj]
theorem arw_set (zs : List Int) (p : Nat) (v : Int) : (ints zs).toArray.setIfInBounds p (.int .i64 v) = (ints (zs.set p v)).toArray := by simp [ints, List.map_set]
/-- What lies in memory while whole looks. -/
structure InW (w : World) (P : Array Value) (zs : List Int) (w' : World) : Prop where
  pb : w'.heap[w.heap.size]? = some (.cells P 28 (0, 0))
  nb : w'.heap[w.heap.size + 1]? = some (.cells (ints zs).toArray 106 (0, 0))
  be : Below w.heap.size w w'
theorem InW.alloc {w P zs w'} (h : InW w P zs w') (o : Obj) : InW w P zs (w'.alloc o) := ⟨bA o h.pb, bA o h.nb, belA o h.be⟩
theorem InW.drewN {w P zs w'} (h : InW w P zs w') (n : Nat) : InW w P zs (w'.drewN n) := ⟨h.pb, h.nb, below_drewN h.be n⟩
theorem InW.set {w P zs w'} (h : InW w P zs w') (p : Nat) (v : Int) : InW w P (zs.set p v) (w'.setCell ⟨w.heap.size + 1, p, none⟩ (.int .i64 v)) := by
  refine ⟨blk_set_other h.pb (by omega) _ _, ?_, h.be.setCell (by show _ ≤ w.heap.size + 1; omega) _⟩
  rw [← arw_set]
  exact blk_set h.nb p _

set_option maxRecDepth 100000 in
set_option maxHeartbeats 4000000 in
theorem whole_any (J K D : Nat) (L : List Hx.Lst) (l : List Hx.TStp) (v ev : Value) (w : World) (hL : ∀ y ∈ L, KS y) (hpos : 0 < L.length) (hl : L.length ≤ 1000) (hok : ∀ z ∈ l, Hx.TOk z) (hh : Hx.WholeP L l)
    (ho : w.ownsRow 0 39 7 v L.length (ksCells L)) (he : w.ownsRow 0 55 9 ev (l.map Hx.entOf).length (entsCells (l.map Hx.entOf))) :
    Calls Tryd.prog 21 #[planV J K D v, ev] w fun e w' => e = .returned (.bool true) ∧ Below w.heap.size w w' := by
  have hlen := hh.len
  rw [List.length_map, hlen] at he
  obtain ⟨gs, caps, rfl, _, hgs⟩ := own_pos ho hpos
  obtain ⟨ge, cape, rfl, _, hge⟩ := own_pos he hpos
  have HO := hide ho
  have HE := hide he
  have HL := hide hL
  have HH := hide hh
  have HOK := hide hok
  have HLEN := hide hlen
  obtain ⟨n, hn⟩ : ∃ n, n = L.length := ⟨_, rfl⟩
  have HNL := hide hn
  rw [← hn] at hl hpos ⊢
  have HI0 : Hid (InW w #[.int .i64 (J : Int), .int .i64 (K : Int), .int .i64 (D : Int), .slice (some ⟨gs, 0, none⟩) n caps] (Hx.doneL []) ((w.alloc (.cells #[.int .i64 (J : Int), .int .i64 (K : Int), .int .i64 (D : Int), .slice (some ⟨gs, 0, none⟩) n caps] 28)).alloc (.cells #[.int .i64 0, .int .i64 0, .int .i64 0, .int .i64 0] 106))) :=
    ⟨bA _ (blk_new w _ _), bN _ _ (by simp), belA _ (belA _ (Below.refl _ _))⟩
  clear ho he hL hh hok hlen hn
  go_enter Tryd.func21, Tryd.ntmps21
  go_upto_region 2 with fail
  generalize (w.alloc (.cells #[.int .i64 (J : Int), .int .i64 (K : Int), .int .i64 (D : Int), .slice (some ⟨gs, 0, none⟩) n caps] 28)).alloc (.cells #[.int .i64 0, .int .i64 0, .int .i64 0, .int .i64 0] 106) = W1 at HI0 ⊢
  go_wp2_with fail
  go_loopg [6] n (fun gk kk wr => ∃ k : Nat, k ≤ n ∧ gk = n - k ∧ kk = .int .i64 (k : Int) ∧ InW w #[.int .i64 (J : Int), .int .i64 (K : Int), .int .i64 (D : Int), .slice (some ⟨gs, 0, none⟩) n caps] (Hx.doneL (l.take k)) wr)
  case atStart => exact ⟨0, Nat.zero_le _, rfl, rfl, unhide HI0⟩
  case round =>
    clear HI0
    obtain ⟨k, hk, rfl, rfl, hin⟩ := hrel
    have HIN := hide hin
    have p3 : wr.cell? ⟨w.heap.size, 3, none⟩ = some (.slice (some ⟨gs, 0, none⟩) n caps) := blk_cell hin.pb 3
    clear hin
    by_cases hlt : k < n
    · have hltI : (k : Int) < (n : Int) := by omega
      obtain ⟨z, hz⟩ : ∃ z, l[k]? = some z := ⟨l[k]'(by rw [unhide HLEN, ← unhide HNL]; exact hlt), List.getElem?_eq_getElem _⟩
      obtain ⟨hp4, hno⟩ := (unhide HH).pl k z hz
      obtain ⟨i0, y0, hy0, s1, s2, s3, s4, s5, s6, s7⟩ := (unhide HH).st k z hz
      have HCE : Hid (∀ w', Below w.heap.size w w' → ∀ t, t < 9 → w'.cell? ⟨ge, k * 9 + t, none⟩ = (entCells (Hx.entOf z))[t]?) := fun w' hb t ht => by
        rw [hb.cell (p := ⟨ge, k * 9 + t, none⟩) hge]
        exact own_at entCells 9 (fun _ => rfl) (unhide HE) (by rw [List.length_map]; exact (unhide HLEN).symm) k _ (by rw [List.getElem?_map, hz]; rfl) t ht
      have e0 : wr.cell? ⟨ge, k * 9, none⟩ = some (.int .i64 (z.pl : Int)) := unhide HCE wr (unhide HIN).be 0 (by omega)
      have e1 : wr.cell? ⟨ge, k * 9 + 1, none⟩ = some (.int .i64 (z.no : Int)) := unhide HCE wr (unhide HIN).be 1 (by omega)
      have n0 : wr.cell? ⟨w.heap.size + 1, z.pl, none⟩ = some (.int .i64 (z.no : Int)) := by
        rw [arw_cell (unhide HIN).nb (by rw [Hx.doneL_len]; exact hp4), List.getD_eq_getElem?_getD, Hx.doneL_get _ hp4, hno]; rfl
      have nf := blk_free (unhide HIN).nb
      have d1 : decide ((z.pl : Int) < 0) = false := by simp
      have d2 : decide ((3 : Int) < (z.pl : Int)) = false := by simp; omega
      have hpI : (z.pl : Int) < 4 := by omega
      have hp0 : (0 : Int) ≤ (z.pl : Int) := by omega
      have hnb := ((unhide HOK) z (List.mem_of_getElem? hz)).no
      have HIN2 : Hid (InW w #[.int .i64 (J : Int), .int .i64 (K : Int), .int .i64 (D : Int), .slice (some ⟨gs, 0, none⟩) n caps] (Hx.doneL (l.take (k + 1))) (wr.setCell ⟨w.heap.size + 1, z.pl, none⟩ (.int .i64 ((z.no : Int) + 1)))) := by
        have e : Hx.doneL (l.take (k + 1)) = (Hx.doneL (l.take k)).set z.pl ((z.no : Int) + 1) := by rw [Hx.take_more hz, Hx.doneL_snoc, hno]
        rw [e]
        exact (unhide HIN).set z.pl _
      have HZ := hide hz
      have HNO := hide hno
      have HS := hide (⟨hy0, s1, s2, s3, s4, s5, s6, s7⟩ : _ ∧ _ ∧ _ ∧ _ ∧ _ ∧ _ ∧ _ ∧ _)
      clear hz hno hy0 s1 s2 s3 s4 s5 s6 s7
      go_wp2_with fail
      go_quiet (fail)
      go_upto_region 8 with fail
      generalize hw2 : (World.drewN wr _).setCell ⟨w.heap.size + 1, z.pl, none⟩ (.int .i64 ((z.no : Int) + 1)) = w2
      have HIN3 : Hid (InW w #[.int .i64 (J : Int), .int .i64 (K : Int), .int .i64 (D : Int), .slice (some ⟨gs, 0, none⟩) n caps] (Hx.doneL (l.take (k + 1))) w2) := by rw [← hw2]; exact (unhide HIN2).drewN _
      clear hw2 HIN2 HIN e0 e1 n0 nf p3 d1 d2 hpI hp0
      go_wp2_with fail
      go_loopg [7, 8] n (fun gk ff ii wr => ∃ i : Nat, i ≤ n ∧ gk = n - i ∧ ii = .int .i64 (i : Int) ∧ ff = .bool (decide (i0 < i)) ∧ InW w #[.int .i64 (J : Int), .int .i64 (K : Int), .int .i64 (D : Int), .slice (some ⟨gs, 0, none⟩) n caps] (Hx.doneL (l.take (k + 1))) wr)
      case atStart => exact ⟨0, Nat.zero_le _, rfl, rfl, rfl, unhide HIN3⟩
      case round =>
        clear HIN3
        obtain ⟨i, hi, rfl, rfl, rfl, hin⟩ := hrel
        have p3 : wr.cell? ⟨w.heap.size, 3, none⟩ = some (.slice (some ⟨gs, 0, none⟩) n caps) := blk_cell hin.pb 3
        have HIN4 := hide hin
        clear hin
        by_cases hlt2 : i < n
        · have hlt2I : (i : Int) < (n : Int) := by omega
          obtain ⟨y, hy⟩ : ∃ y, L[i]? = some y := ⟨L[i]'(by rw [← unhide HNL]; exact hlt2), List.getElem?_eq_getElem _⟩
          have cx : ∀ t, t < 7 → wr.cell? ⟨gs, i * 7 + t, none⟩ = (kstCells y)[t]? := fun t h => by
            rw [(unhide HIN4).be.cell (p := ⟨gs, i * 7 + t, none⟩) hgs]; exact own_at kstCells 7 (fun _ => rfl) (unhide HO) rfl i y hy t h
          have x0 : wr.cell? ⟨gs, i * 7, none⟩ = some (.int .i64 (y.pl : Int)) := cx 0 (by omega)
          have x1 : wr.cell? ⟨gs, i * 7 + 1, none⟩ = some (.int .i64 (y.no : Int)) := cx 1 (by omega)
          have x2 : wr.cell? ⟨gs, i * 7 + 2, none⟩ = some (.int .i64 (y.x.lo : Int)) := cx 2 (by omega)
          have x3 : wr.cell? ⟨gs, i * 7 + 3, none⟩ = some (.int .i64 (y.x.hi : Int)) := cx 3 (by omega)
          have x4 : wr.cell? ⟨gs, i * 7 + 4, none⟩ = some (.bool y.x.rest) := cx 4 (by omega)
          have x5 : wr.cell? ⟨gs, i * 7 + 5, none⟩ = some (.int .i64 (y.x.mn : Int)) := cx 5 (by omega)
          have x6 : wr.cell? ⟨gs, i * 7 + 6, none⟩ = some (.int .i64 (y.x.mx : Int)) := cx 6 (by omega)
          have HYI : Hid (y.pl = z.pl → y.no = z.no → i = i0) := fun g1 g2 => by
            obtain ⟨hy0, s1, s2, _⟩ := unhide HS
            exact (unhide HH).un i i0 y y0 hy hy0 (by rw [g1, s1]) (by rw [g2, s2])
          have HYE : Hid (i = i0 → y.pl = z.pl ∧ y.no = z.no ∧ y.x.lo = z.lo ∧ y.x.hi = z.hi ∧ y.x.mn = z.mn ∧ y.x.mx = z.mx ∧ y.x.rest = decide (0 ≤ z.out)) := fun g => by
            obtain ⟨hy0, s1, s2, s3, s4, s5, s6, s7⟩ := unhide HS
            rw [← g, hy] at hy0
            cases hy0
            exact ⟨s1, s2, s3, s4, s5, s6, s7⟩
          clear cx hy
          go_upto_region 13 with fail
          have HX := hide (bN #[.int .i64 (y.pl : Int), .int .i64 (y.no : Int), .int .i64 (y.x.lo : Int), .int .i64 (y.x.hi : Int), .bool y.x.rest, .int .i64 (y.x.mn : Int), .int .i64 (y.x.mx : Int)] 39 (w := wr) rfl)
          have HIN5 := hide ((unhide HIN4).alloc (.cells #[.int .i64 (y.pl : Int), .int .i64 (y.no : Int), .int .i64 (y.x.lo : Int), .int .i64 (y.x.hi : Int), .bool y.x.rest, .int .i64 (y.x.mn : Int), .int .i64 (y.x.mx : Int)] 39))
          obtain ⟨tb, htb⟩ : ∃ tb, tb = wr.heap.size := ⟨_, rfl⟩
          rw [← htb] at HX ⊢
          clear HIN4 x0 x1 x2 x3 x4 x5 x6 htb p3
          generalize wr.alloc (.cells #[.int .i64 (y.pl : Int), .int .i64 (y.no : Int), .int .i64 (y.x.lo : Int), .int .i64 (y.x.hi : Int), .bool y.x.rest, .int .i64 (y.x.mn : Int), .int .i64 (y.x.mx : Int)] 39) = wx at HX HIN5 ⊢
          have e0 : wx.cell? ⟨ge, k * 9, none⟩ = some (.int .i64 (z.pl : Int)) := unhide HCE wx (unhide HIN5).be 0 (by omega)
          have e1 : wx.cell? ⟨ge, k * 9 + 1, none⟩ = some (.int .i64 (z.no : Int)) := unhide HCE wx (unhide HIN5).be 1 (by omega)
          have z0 : wx.cell? ⟨tb, 0, none⟩ = some (.int .i64 (y.pl : Int)) := blk_cell (unhide HX) 0
          have z1 : wx.cell? ⟨tb, 1, none⟩ = some (.int .i64 (y.no : Int)) := blk_cell (unhide HX) 1
          by_cases hii : i = i0
          · obtain ⟨s1, s2, s3, s4, s5, s6, s7⟩ := unhide HYE hii
            rw [s1] at z0
            rw [s2] at z1
            have z2 : wx.cell? ⟨tb, 2, none⟩ = some (.int .i64 (z.lo : Int)) := by rw [← s3]; exact blk_cell (unhide HX) 2
            have z3 : wx.cell? ⟨tb, 3, none⟩ = some (.int .i64 (z.hi : Int)) := by rw [← s4]; exact blk_cell (unhide HX) 3
            have z4 : wx.cell? ⟨tb, 4, none⟩ = some (.bool (decide (0 ≤ z.out))) := by rw [← s7]; exact blk_cell (unhide HX) 4
            have z5 : wx.cell? ⟨tb, 5, none⟩ = some (.int .i64 (z.mn : Int)) := by rw [← s5]; exact blk_cell (unhide HX) 5
            have z6 : wx.cell? ⟨tb, 6, none⟩ = some (.int .i64 (z.mx : Int)) := by rw [← s6]; exact blk_cell (unhide HX) 6
            have e3 : wx.cell? ⟨ge, k * 9 + 3, none⟩ = some (.int .i64 (z.lo : Int)) := unhide HCE wx (unhide HIN5).be 3 (by omega)
            have e4 : wx.cell? ⟨ge, k * 9 + 4, none⟩ = some (.int .i64 (z.hi : Int)) := unhide HCE wx (unhide HIN5).be 4 (by omega)
            have e5 : wx.cell? ⟨ge, k * 9 + 5, none⟩ = some (.int .i64 z.out) := unhide HCE wx (unhide HIN5).be 5 (by omega)
            have e6 : wx.cell? ⟨ge, k * 9 + 6, none⟩ = some (.int .i64 (z.mn : Int)) := unhide HCE wx (unhide HIN5).be 6 (by omega)
            have e7 : wx.cell? ⟨ge, k * 9 + 7, none⟩ = some (.int .i64 (z.mx : Int)) := unhide HCE wx (unhide HIN5).be 7 (by omega)
            have HII := hide hii
            clear s1 s2 s3 s4 s5 s6 s7 HX HYE HYI hii
            by_cases hout : 0 ≤ z.out
            all_goals
              go_quiet (fail)
              go_wp2_with fail
              go_quiet (fail)
              go_wp2_with fail
              go_roundg (n - (i + 1))
              case measure => omega
              case rel => exact ⟨i + 1, by omega, rfl, by go_num, by have := unhide HII; simp; omega, (unhide HIN5).drewN _⟩
          · have hdd : decide (i0 < i + 1) = decide (i0 < i) := by rw [Bool.eq_iff_iff, decide_eq_true_eq, decide_eq_true_eq]; omega
            have HDD := hide hdd
            by_cases hpe : y.pl = z.pl
            · have hne : ¬ y.no = z.no := fun g => hii (unhide HYI hpe g)
              have hneI : ((y.no : Int) == (z.no : Int)) = false := by rw [beq_eq_false_iff_ne]; omega
              rw [hpe] at z0
              clear hdd hpe hne hii HYE HYI
              go_quiet (fail)
              go_wp2_with fail
              go_roundg (n - (i + 1))
              case measure => omega
              case rel => exact ⟨i + 1, by omega, rfl, by go_num, by rw [unhide HDD], (unhide HIN5).drewN _⟩
            · have hneI : ((y.pl : Int) == (z.pl : Int)) = false := by rw [beq_eq_false_iff_ne]; omega
              clear hdd hpe hii HYE HYI
              go_quiet (fail)
              go_wp2_with fail
              go_roundg (n - (i + 1))
              case measure => omega
              case rel => exact ⟨i + 1, by omega, rfl, by go_num, by rw [unhide HDD], (unhide HIN5).drewN _⟩
        · have hlt2I : ¬ (i : Int) < (n : Int) := by omega
          have hlt0 : i0 < i := by
            have := (List.getElem?_eq_some_iff.1 (unhide HS).1).1
            have := unhide HNL
            omega
          rw [decide_eq_true hlt0]
          go_wp2_with fail
          go_roundg (n - (k + 1))
          case measure => omega
          case rel => exact ⟨k + 1, by omega, rfl, by go_num, unhide HIN4⟩
    · have hltI : ¬ (k : Int) < (n : Int) := by omega
      go_wp2_with fail
      go_returns
      exact ⟨rfl, (unhide HIN).be⟩
end Go.Proofs.YtppcnlkhdgmaiaaDoor
namespace Go.Proofs.YtppcnlkhdgmaiaaDoor
namespace Hx

theorem labs_idx {ps : List (List Stp)} {i : Nat} {y : Lst} (h : (labs ps)[i]? = some y) : i = offP ps y.pl + y.no := by
  obtain ⟨p, n, q, x, hq, hx, rfl⟩ := labs_inv (getElem?_lt h)
  rw [labs_at hq hx] at h
  cases h
  rfl
theorem Tm.whole {J K D ps o f} (h : Tm J K D ps o f) (hs : GoodS ps) : WholeP (labs ps) (ttab ps o f) := by
  refine ⟨by rw [ttab_len, h.len], fun k z hz => ?_, fun k z hz => ?_, fun i j y z hy hz e1 e2 => ?_⟩
  · have hk : k < o.length := by have := getElem?_lt hz; rw [ttab_len] at this; exact this
    obtain ⟨r, nx, p, q, x, hat⟩ := h.at hk
    rw [hat.row f] at hz
    cases hz
    obtain ⟨a1, _⟩ := good_len h.good hat.hq hat.hx
    refine ⟨a1, ?_⟩
    show nx p = (holdF ((ttab ps o f).take k) p).2
    rw [h.hold k (by omega) r nx hat.e p]
  · have hk : k < o.length := by have := getElem?_lt hz; rw [ttab_len] at this; exact this
    obtain ⟨r, nx, p, q, x, hat⟩ := h.at hk
    rw [hat.row f] at hz
    cases hz
    have hn := (hs.stp q (List.mem_of_getElem? hat.hq) x (List.mem_of_getElem? hat.hx)).2.2.2.2.2.2.2
    have hp := getElem?_lt hat.hq
    obtain ⟨u1, _⟩ := under_bump hat.tat
    refine ⟨offP ps p + nx p, ⟨p, nx p, x⟩, labs_at hat.hq hat.hx, rfl, rfl, rfl, rfl, ?_, ?_, ?_⟩
    · show x.mn = if x.rest then x.mn else 0
      cases hr : x.rest
      · exact (hn hr).1
      · rfl
    · show x.mx = if x.rest then x.mx else 0
      cases hr : x.rest
      · exact (hn hr).2
      · rfl
    · show x.rest = decide (0 ≤ (if x.rest then (stAt ps (o.take k)).getD p 0 else -1))
      cases hr : x.rest
      · rfl
      · have := hat.plc.on p hp (by rw [u1]; exact hr)
        simp only [if_true]
        exact (decide_eq_true this).symm
  · rw [labs_idx hy, labs_idx hz, e1, e2]
end Hx
end Go.Proofs.YtppcnlkhdgmaiaaDoor
namespace Go.Proofs.YtppcnlkhdgmaiaaDoor
namespace Hx

theorem lastIx_pl {o : List Trn} {p : Nat} : ∀ {k : Nat}, (∃ j t, j < k ∧ o[j]? = some t ∧ t.pl = p) → ∃ t, o[lastIx o k p]? = some t ∧ t.pl = p ∧ lastIx o k p < k ∧ ∀ j t, lastIx o k p < j → j < k → o[j]? = some t → t.pl ≠ p
  | 0, h => by obtain ⟨j, _, h, _⟩ := h; omega
  | k + 1, h => by
    obtain ⟨j, t, hj, ht, hp⟩ := h
    cases hk : o[k]? with
    | none =>
      have hjk : j < k := by
        by_cases e : j = k
        · subst e; rw [hk] at ht; cases ht
        · omega
      obtain ⟨t', a1, a2, a3, a4⟩ := lastIx_pl (k := k) ⟨j, t, hjk, ht, hp⟩
      have e : lastIx o (k + 1) p = lastIx o k p := by rw [lastIx, hk]
      rw [e]
      refine ⟨t', a1, a2, by omega, fun i s h1 h2 h3 => ?_⟩
      by_cases e2 : i = k
      · subst e2; rw [hk] at h3; cases h3
      · exact a4 i s h1 (by omega) h3
    | some u =>
      have e := lastIx_step hk p
      by_cases hu : p = u.pl
      · rw [if_pos hu] at e
        rw [e]
        exact ⟨u, hk, hu.symm, by omega, fun i s h1 h2 _ => by omega⟩
      · rw [if_neg hu] at e
        rw [e]
        have hjk : j < k := by
          by_cases e2 : j = k
          · subst e2; rw [hk] at ht; cases ht; exact absurd hp.symm hu
          · omega
        obtain ⟨t', a1, a2, a3, a4⟩ := lastIx_pl (k := k) ⟨j, t, hjk, ht, hp⟩
        refine ⟨t', a1, a2, by omega, fun i s h1 h2 h3 => ?_⟩
        by_cases e2 : i = k
        · subst e2; rw [hk] at h3; cases h3; exact fun g => hu g.symm
        · exact a4 i s h1 (by omega) h3
theorem lim_keeps {J : Nat} {o : List Trn} {f : Nat → Int} (h : earlyF J o = some f) {i : Nat} (hi : i < o.length) {m : Lim} (hm : m ∈ limAt J o i) : f m.fr + m.more ≤ f m.to :=
  (early_least h).1.2 m (List.mem_flatMap.2 ⟨i, List.mem_range.2 hi, hm⟩)
/-- One step behind the other: the arm is free. -/
theorem Tm.arm {J K D ps o f} (h : Tm J K D ps o f) {k : Nat} {t u : Trn} (ht : (o.map (turnOfIdx ps))[k]? = some t) (hu : (o.map (turnOfIdx ps))[k + 1]? = some u) : f k + J + t.x.hi ≤ f (k + 1) := by
  have := lim_keeps h.early (i := k + 1) (getElem?_lt hu) (m := ⟨k, k + 1, (J : Int) + t.x.hi⟩) (by
    unfold limAt
    rw [hu]
    refine List.mem_append_left _ ?_
    unfold lim1
    rw [if_pos (by omega), Nat.add_sub_cancel, ht]
    simp)
  simp only at this
  omega
/-- The step ahead of a rest: the last one of its plate, in time for it. -/
theorem Tm.rest {J K D ps o f} (h : Tm J K D ps o f) {k : Nat} {r nx p q x} (hat : AtK K ps o k r nx p q x) (hr : x.rest = true) :
    ∃ a t, a < k ∧ (o.map (turnOfIdx ps))[a]? = some t ∧ t.pl = p ∧ (∀ j s, a < j → j < k → (o.map (turnOfIdx ps))[j]? = some s → s.pl ≠ p) ∧ f a + J + t.x.hi + x.mn ≤ f k ∧ f k + J ≤ f a + t.x.lo + x.mx := by
  have hord := order_is h.good.fine h.mem
  have hk : k < o.length := getElem?_lt hat.i
  obtain ⟨b, hb1, hb2⟩ := hord.prev k _ ⟨p, nx p, x⟩ hat.i (labs_at hat.hq hat.hx) hr
  have hn0 : 0 < nx p := by
    obtain ⟨y, l, e, hy⟩ := h.good.fine p q hat.hq
    rcases Nat.eq_zero_or_pos (nx p) with g | g
    · have hx := hat.hx
      rw [g, e] at hx
      simp at hx
      rw [hx] at hy
      rw [hy] at hr
      cases hr
    · exact g
  obtain ⟨y, hy⟩ : ∃ y, q[nx p - 1]? = some y := ⟨q[nx p - 1]'(by have := getElem?_lt hat.hx; omega), List.getElem?_eq_getElem _⟩
  have hb : b = offP ps p + (nx p - 1) := by omega
  have htb : (o.map (turnOfIdx ps))[lastIx (o.map (turnOfIdx ps)) k p]? = some (turnOfIdx ps b) := by rw [List.getElem?_map, hb1]; rfl
  have hpl : (turnOfIdx ps b).pl = p := by rw [hb, turn_pl hat.hq hy]
  have hk0 : 0 < k := by
    rcases Nat.eq_zero_or_pos k with g | g
    · exfalso
      subst g
      have e : lastIx (o.map (turnOfIdx ps)) 0 p = 0 := rfl
      have hb1' : o[0]? = some b := hb1
      rw [hat.i] at hb1'
      have := Option.some.inj hb1'
      omega
    · exact g
  have hlt := lastIx_lt (o.map (turnOfIdx ps)) p k hk0
  obtain ⟨t, a1, a2, a3, a4⟩ := lastIx_pl (o := o.map (turnOfIdx ps)) (p := p) (k := k) ⟨_, _, hlt, htb, hpl⟩
  have hlim : ∀ m ∈ lim2 J (o.map (turnOfIdx ps)) k ⟨x, p, nx p, begB q (nx p)⟩, f m.fr + m.more ≤ f m.to := fun m hm =>
    lim_keeps h.early (i := k) (by rw [List.length_map]; exact hk) (by
      unfold limAt
      rw [hat.trnk]
      exact List.mem_append_right _ hm)
  unfold lim2 at hlim
  simp only [hr, if_true, a1] at hlim
  have l1 := hlim _ (List.mem_cons_self ..)
  have l2 := hlim _ (List.mem_cons_of_mem _ (List.mem_cons_self ..))
  simp only at l1 l2
  exact ⟨_, t, a3, a1, a2, a4, by omega, by omega⟩
/-! ### Places that are full. -/
def outF (g : Nat → Bool) (y : TStp) : Nat → Bool := fun z => if (z : Int) = y.out then false else g z
def inF (g : Nat → Bool) (y : TStp) : Nat → Bool := fun z => if (z : Int) = y.inn then true else g z
def fullF (l : List TStp) : Nat → Bool := l.foldl (fun g y => inF (outF g y) y) (fun _ => false)
theorem fullF_at {l : List TStp} {k : Nat} {y : TStp} (h : l[k]? = some y) : fullF (l.take (k + 1)) = inF (outF (fullF (l.take k)) y) y := by
  unfold fullF
  rw [take_more h, List.foldl_append]
  rfl
theorem full_held {l : List TStp} (hr : Right l) : ∀ (k z : Nat), k ≤ l.length → fullF (l.take k) z = true → ∃ a, a < 4 ∧ (holdF (l.take k) a).1 = (z : Int)
  | 0, z, _, h => by rw [List.take_zero] at h; cases h
  | k + 1, z, hk, h => by
    have hy : l[k]? = some l[k] := List.getElem?_eq_getElem (by omega)
    have hown := right_own hr hy
    have hpl := (hr.ok _ (List.mem_of_getElem? hy)).pl
    rw [fullF_at hy] at h
    unfold inF at h
    by_cases e1 : (z : Int) = (l[k]).inn
    · exact ⟨_, hpl, by rw [hold_at hy, if_pos rfl, e1]⟩
    · rw [if_neg e1] at h
      unfold outF at h
      by_cases e2 : (z : Int) = (l[k]).out
      · rw [if_pos e2] at h; cases h
      · rw [if_neg e2] at h
        obtain ⟨a, ha, hz⟩ := full_held hr k z (by omega) h
        by_cases e3 : (l[k]).pl = a
        · exfalso
          rw [← e3, ← hown.2.1] at hz
          exact e2 hz.symm
        · exact ⟨a, ha, by rw [hold_at hy, if_neg e3]; exact hz⟩
/-- The place into which a plate goes is not full. -/
theorem not_full {l : List TStp} (hr : Right l) {k n : Nat} {y : TStp} (hy : l[k]? = some y) (hn : y.inn = (n : Int)) : outF (fullF (l.take k)) y n = false := by
  have hown := right_own hr hy
  unfold outF
  by_cases e : (n : Int) = y.out
  · rw [if_pos e]
  · rw [if_neg e]
    cases hf : fullF (l.take k) n with
    | false => rfl
    | true =>
      exfalso
      obtain ⟨a, ha, hz⟩ := full_held hr k n (by have := at_lt hy; omega) hf
      by_cases ea : a = y.pl
      · rw [ea, ← hown.2.1] at hz
        exact e hz.symm
      · have h1 := hr.right k (at_lt hy)
        unfold rightF at h1
        rw [hy] at h1
        simp only [Bool.and_eq_true, List.all_eq_true] at h1
        have h2 := h1.2 a (List.mem_range.2 ha)
        unfold clash at h2
        rw [hz, hn] at h2
        simp [ea] at h2
/-- A rest begins in a place below K. -/
theorem Tm.into {J K D ps o f} (_h : Tm J K D ps o f) {k : Nat} {r nx p q x} (hat : AtK K ps o k r nx p q x) (hb : begB q (nx p) = true) : lowF (sOut ⟨x, p, nx p, begB q (nx p)⟩ (stAt ps (o.take k))) < K :=
  low_places hat.so hat.plc hat.tat hat.rk hb
theorem out_rest {x : TStp} (h : TOk x) (g : 0 ≤ x.out) : x.rest = true := by
  cases hr : x.rest
  · have := (h.norest hr).2.2; omega
  · rfl
/-- The times hold whatever the clock and the steps do. -/
structure RobP (J K : Nat) (l : List TStp) : Prop where
  right : Right l
  arm : ∀ (k : Nat) (x y : TStp), l[k]? = some x → l[k + 1]? = some y → x.t + J + x.hi ≤ y.t
  rest : ∀ (k : Nat) (y : TStp), l[k]? = some y → 0 ≤ y.out → ∃ (a : Nat) (x : TStp), a < k ∧ l[a]? = some x ∧ x.pl = y.pl ∧ (∀ (j : Nat) (z : TStp), a < j → j < k → l[j]? = some z → z.pl ≠ y.pl) ∧ x.inn = y.out ∧ x.t + J + x.hi + y.mn ≤ y.t ∧ y.t + J ≤ x.t + x.lo + y.mx
  into : ∀ (k : Nat) (y : TStp), l[k]? = some y → 0 ≤ y.inn → y.inn < (K : Int)
theorem Tm.rob {J K D ps o f} (h : Tm J K D ps o f) : RobP J K (ttab ps o f) := by
  have hR := h.right
  have hlt : ∀ {k : Nat} {z : TStp}, (ttab ps o f)[k]? = some z → k < o.length := fun hz => by have := getElem?_lt hz; rw [ttab_len] at this; exact this
  refine ⟨hR, fun k x y hx hy => ?_, fun k y hy ho => ?_, fun k y hy hi => ?_⟩
  · obtain ⟨r1, nx1, p1, q1, x1, h1⟩ := h.at (hlt hx)
    obtain ⟨r2, nx2, p2, q2, x2, h2⟩ := h.at (hlt hy)
    have ha := h.arm h1.trnk h2.trnk
    have b1 := (h.f0 (hlt hx)).1
    have b2 := (h.f0 (hlt hy)).1
    rw [h1.row f] at hx
    rw [h2.row f] at hy
    cases hx
    cases hy
    show (f k).toNat + J + x1.hi ≤ (f (k + 1)).toNat
    simp only at ha
    omega
  · have hk := hlt hy
    obtain ⟨r, nx, p, q, x, hat⟩ := h.at hk
    have hrow := hat.row f
    have hy' := hy
    rw [hrow] at hy'
    cases hy'
    have hr : x.rest = true := out_rest (hR.ok _ (List.mem_of_getElem? hy)) ho
    obtain ⟨a, t, a1, a2, a3, a4, a5, a6⟩ := h.rest hat hr
    obtain ⟨r2, nx2, p2, q2, x2, h2⟩ := h.at (k := a) (by omega)
    rw [h2.trnk] at a2
    cases a2
    have b1 := (h.f0 (k := a) (by omega)).1
    have b2 := (h.f0 hk).1
    have hbt : ∀ (j : Nat) (z : TStp), a < j → j < k → (ttab ps o f)[j]? = some z → z.pl ≠ p := fun j z g1 g2 g3 => by
      obtain ⟨r3, nx3, p3, q3, x3, h3⟩ := h.at (hlt g3)
      have := a4 j _ g1 g2 h3.trnk
      rw [h3.row f] at g3
      cases g3
      exact this
    have hown := (right_own hR hy).2.1
    have e := hold_kept (l := ttab ps o f) (p := p) (i := a + 1) (k - (a + 1)) (fun j z g1 g2 g3 => hbt j z (by omega) (by omega) g3)
    rw [show a + 1 + (k - (a + 1)) = k by omega, hold_at (h2.row f), if_pos (show (tStp ⟨x2, p2, nx2 p2, begB q2 (nx2 p2)⟩ (f a) (stAt ps (o.take a))).pl = p from a3)] at e
    refine ⟨a, _, a1, h2.row f, a3, hbt, ?_, ?_, ?_⟩
    · have : (tStp ⟨x, p, nx p, begB q (nx p)⟩ (f k) (stAt ps (o.take k))).out = (holdF ((ttab ps o f).take k) p).1 := hown
      rw [this, e]
    · show (f a).toNat + J + x2.hi + (if x.rest then x.mn else 0) ≤ (f k).toNat
      rw [hr, if_pos rfl]
      simp only at a5
      omega
    · show (f k).toNat + J ≤ (f a).toNat + x2.lo + (if x.rest then x.mx else 0)
      rw [hr, if_pos rfl]
      simp only at a6
      omega
  · obtain ⟨r, nx, p, q, x, hat⟩ := h.at (hlt hy)
    rw [hat.row f] at hy
    cases hy
    have hi' : 0 ≤ (if begB q (nx p) then (lowF (sOut ⟨x, p, nx p, begB q (nx p)⟩ (stAt ps (o.take k))) : Int) else -1) := hi
    show (if begB q (nx p) then (lowF (sOut ⟨x, p, nx p, begB q (nx p)⟩ (stAt ps (o.take k))) : Int) else -1) < (K : Int)
    cases hb : begB q (nx p) with
    | false => rw [hb] at hi'; simp at hi'
    | true =>
      have := h.into hat hb
      rw [hb] at this
      simp only [if_true]
      omega
end Hx
end Go.Proofs.YtppcnlkhdgmaiaaDoor
namespace Go.Proofs.YtppcnlkhdgmaiaaDoor
open Go.RowKit

def bls (g : Nat → Bool) : List Value := (List.range 10).map fun z => .bool (g z)
theorem bls_cell {w : World} {b : Nat} {g : Nat → Bool} {T : TypeId} (h : w.heap[b]? = some (.cells (bls g).toArray T (0, 0))) {j : Nat} (hj : j < 10) : w.cell? ⟨b, j, none⟩ = some (.bool (g j)) := by
  rw [blk_cell h j]
  simp [bls, hj]
theorem bls_set (g : Nat → Bool) (p : Nat) (v : Bool) : (bls g).toArray.setIfInBounds p (.bool v) = (bls (fun z => if z = p then v else g z)).toArray := by
  rw [List.setIfInBounds_toArray]
  congr 1
  apply List.ext_getElem?
  intro i
  rw [List.getElem?_set]
  unfold bls
  rw [List.length_map, List.length_range, List.getElem?_map, List.getElem?_map]
  by_cases e : p = i
  · subst e
    rw [if_pos rfl]
    by_cases h : p < 10
    · rw [if_pos h, List.getElem?_range h]; simp
    · rw [if_neg h, List.getElem?_eq_none (by simp; omega)]; rfl
  · rw [if_neg e]
    by_cases h : i < 10
    · rw [List.getElem?_range h]
      have e' : ¬ i = p := fun g => e g.symm
      simp [e']
    · rw [List.getElem?_eq_none (by simp; omega)]; rfl
/-- What lies in memory while robust looks. -/
structure InR (w : World) (g : Nat → Bool) (w' : World) : Prop where
  fb : w'.heap[w.heap.size]? = some (.cells (bls g).toArray 107 (0, 0))
  be : Below w.heap.size w w'
theorem InR.drewN {w g w'} (h : InR w g w') (n : Nat) : InR w g (w'.drewN n) := ⟨h.fb, below_drewN h.be n⟩
theorem InR.set {w g w'} (h : InR w g w') (p : Nat) (v : Bool) : InR w (fun z => if z = p then v else g z) (w'.setCell ⟨w.heap.size, p, none⟩ (.bool v)) := by
  refine ⟨?_, h.be.setCell (Nat.le_refl _) _⟩
  rw [← bls_set]
  exact blk_set h.fb p _
theorem Hx.outF_is {g : Nat → Bool} {y : Hx.TStp} {p : Nat} (h : y.out = (p : Int)) : (fun z => if z = p then false else g z) = Hx.outF g y := by
  funext z
  unfold Hx.outF
  rw [h]
  by_cases e : z = p
  · rw [if_pos e, if_pos (by omega)]
  · rw [if_neg e, if_neg (by omega)]
theorem Hx.inF_is {g : Nat → Bool} {y : Hx.TStp} {p : Nat} (h : y.inn = (p : Int)) : (fun z => if z = p then true else g z) = Hx.inF g y := by
  funext z
  unfold Hx.inF
  rw [h]
  by_cases e : z = p
  · rw [if_pos e, if_pos (by omega)]
  · rw [if_neg e, if_neg (by omega)]
theorem Hx.outF_no {g : Nat → Bool} {y : Hx.TStp} (h : ¬ 0 ≤ y.out) : Hx.outF g y = g := by
  funext z
  unfold Hx.outF
  rw [if_neg (by omega)]
theorem Hx.inF_no {g : Nat → Bool} {y : Hx.TStp} (h : ¬ 0 ≤ y.inn) : Hx.inF g y = g := by
  funext z
  unfold Hx.inF
  rw [if_neg (by omega)]

set_option maxRecDepth 100000 in
set_option maxHeartbeats 4000000 in
theorem robust_any (J K : Nat) (l : List Hx.TStp) (ev : Value) (w : World) (hJ : J < 1000) (hpos : 0 < l.length) (hl : l.length ≤ 1000) (hh : Hx.RobP J K l)
    (he : w.ownsRow 0 55 9 ev (l.map Hx.entOf).length (entsCells (l.map Hx.entOf))) :
    Calls Tryd.prog 22 #[ev, .int .i64 (J : Int), .int .i64 (K : Int)] w fun e w' => e = .returned (.bool true) ∧ Below w.heap.size w w' := by
  rw [List.length_map] at he
  obtain ⟨ge, cape, rfl, _, hge⟩ := own_pos he hpos
  have HCE : Hid (∀ (j : Nat) (y : Hx.TStp), l[j]? = some y → ∀ w', Below w.heap.size w w' → ∀ t, t < 9 → w'.cell? ⟨ge, j * 9 + t, none⟩ = (entCells (Hx.entOf y))[t]?) := fun j y hy w' hb t ht => by
    rw [hb.cell (p := ⟨ge, j * 9 + t, none⟩) hge]
    exact own_at entCells 9 (fun _ => rfl) he (List.length_map ..).symm j _ (by rw [List.getElem?_map, hy]; rfl) t ht
  have HH := hide hh
  obtain ⟨n, hn⟩ : ∃ n, n = l.length := ⟨_, rfl⟩
  have HNL := hide hn
  rw [← hn] at hl hpos ⊢
  have HI0 : Hid (InR w (Hx.fullF []) (w.alloc (.cells #[.bool false, .bool false, .bool false, .bool false, .bool false, .bool false, .bool false, .bool false, .bool false, .bool false] 107))) :=
    ⟨blk_new w _ _, belA _ (Below.refl _ _)⟩
  clear he hh hn
  go_enter Tryd.func22, Tryd.ntmps22
  go_upto_region 2 with fail
  generalize w.alloc (.cells #[.bool false, .bool false, .bool false, .bool false, .bool false, .bool false, .bool false, .bool false, .bool false, .bool false] 107) = W1 at HI0 ⊢
  go_wp2_with fail
  go_loopg [8] n (fun gk kk wr => ∃ k : Nat, k ≤ n ∧ gk = n - k ∧ kk = .int .i64 (k : Int) ∧ InR w (Hx.fullF (l.take k)) wr)
  case atStart => exact ⟨0, Nat.zero_le _, rfl, rfl, unhide HI0⟩
  case round =>
    clear HI0
    obtain ⟨k, hk, rfl, rfl, hin⟩ := hrel
    have HIN := hide hin
    clear hin
    by_cases hlt : k < n
    · have hltI : (k : Int) < (n : Int) := by omega
      obtain ⟨z, hz⟩ : ∃ z, l[k]? = some z := ⟨l[k]'(by rw [← unhide HNL]; exact hlt), List.getElem?_eq_getElem _⟩
      have HZ := hide hz
      have HCZ := hide (unhide HCE k z hz)
      have hok := (unhide HH).right.ok z (List.mem_of_getElem? hz)
      have b1 := hok.t
      have b2 := hok.mn
      have b3 := hok.mx
      have b4 := hok.inn1
      have HOK := hide hok
      clear hz hok
      have x2 : wr.cell? ⟨ge, k * 9 + 2, none⟩ = some (.int .i64 (z.t : Int)) := unhide HCZ wr (unhide HIN).be 2 (by omega)
      go_upto_region 5 with fail
      go_cut [41] (fun s41 wc => s41 = .bool false ∧ InR w (Hx.fullF (l.take k)) wc)
      case first =>
        by_cases hk0 : k = 0
        · have hkI : ¬ (0 : Int) < (k : Int) := by omega
          have hkD : decide ((0 : Int) < (k : Int)) = false := decide_eq_false hkI
          have hkND : decide (0 < k) = false := by simp; omega
          clear hk0
          go_quiet (fail)
          go_wp2_with fail
          go_meet
          case rel => exact ⟨rfl, (unhide HIN).drewN _⟩
        · obtain ⟨i, hi⟩ : ∃ i, k = i + 1 := ⟨k - 1, by omega⟩
          obtain ⟨y, hy⟩ : ∃ y, l[i]? = some y := ⟨l[i]'(by rw [← unhide HNL]; omega), List.getElem?_eq_getElem _⟩
          have hyk := (unhide HH).right.ok y (List.mem_of_getElem? hy)
          have c1 := hyk.t
          have c2 := hyk.hi
          have y2 : wr.cell? ⟨ge, i * 9 + 2, none⟩ = some (.int .i64 (y.t : Int)) := unhide HCE i y hy wr (unhide HIN).be 2 (by omega)
          have y4 : wr.cell? ⟨ge, i * 9 + 4, none⟩ = some (.int .i64 (y.hi : Int)) := unhide HCE i y hy wr (unhide HIN).be 4 (by omega)
          have hz2 : l[i + 1]? = some z := by rw [← hi]; exact unhide HZ
          have harm := (unhide HH).arm i y z hy hz2
          have hd : decide ((z.t : Int) < (y.t : Int) + (J : Int) + (y.hi : Int)) = false := by simp; omega
          have hkD : decide ((0 : Int) < (k : Int)) = true := by simp; omega
          have hkND : decide (0 < k) = true := by simp; omega
          have hkN : 0 < k := by omega
          have hkI : (0 : Int) < (k : Int) := by omega
          have hwI : IntKind.i64.wrap ((k : Int) - 1) = (i : Int) := by
            rw [show (k : Int) - 1 = (i : Int) by omega]
            exact IntWalk.i64_in _ ⟨by omega, by omega⟩
          have hi1 : (0 : Int) ≤ (i : Int) := by omega
          have hi2 : (i : Int) < (n : Int) := by omega
          clear hk0 hi hy hyk harm hz2
          go_quiet (fail)
          go_wp2_with fail
          go_meet
          case rel => exact ⟨rfl, (unhide HIN).drewN _⟩
      case rest =>
      obtain ⟨rfl, hin⟩ := hcut
      have HINC := hide hin
      clear hin HIN x2
      have x5 : wc.cell? ⟨ge, k * 9 + 5, none⟩ = some (.int .i64 z.out) := unhide HCZ wc (unhide HINC).be 5 (by omega)
      go_upto_if 47 with fail
      go_cut [] (fun wc => InR w (Hx.outF (Hx.fullF (l.take k)) z) wc)
      case first =>
        by_cases hout : 0 ≤ z.out
        · obtain ⟨a, x, ha, hx, hp, hlast, hio, ht1, ht2⟩ := (unhide HH).rest k z (unhide HZ) hout
          obtain ⟨po, hpo⟩ : ∃ po : Nat, z.out = (po : Int) := ⟨z.out.toNat, by omega⟩
          have hpo9 : po ≤ 9 := by
            have := (unhide HOK).rest (Hx.out_rest (unhide HOK) hout)
            omega
          have HPO := hide hpo
          have HX := hide hx
          have HA := hide (⟨ha, hp, hlast⟩ : _ ∧ _ ∧ _)
          have HT := hide (⟨ht1, ht2⟩ : _ ∧ _)
          have HIO := hide hio
          clear hx ha hp hlast ht1 ht2 hio hpo
          go_wp2_with fail
          go_loopg [9, 10] k (fun gk aa ii wr => ∃ (i : Nat) (v : Int), i ≤ k ∧ gk = k - i ∧ aa = .int .i64 v ∧ ii = .int .i64 (i : Int) ∧ Hid (a < i → v = (a : Int)) ∧ InR w (Hx.fullF (l.take k)) wr)
          case atStart => exact ⟨0, -1, Nat.zero_le _, rfl, rfl, rfl, fun h => absurd h (Nat.not_lt_zero _), unhide HINC⟩
          case round =>
            clear HINC x5
            obtain ⟨i, v, hi, rfl, rfl, rfl, HV, hin⟩ := hrel
            have HIN := hide hin
            clear hin
            by_cases hik : i < k
            · have hikI : (i : Int) < (k : Int) := by omega
              obtain ⟨y, hy⟩ : ∃ y, l[i]? = some y := ⟨l[i]'(by rw [← unhide HNL]; omega), List.getElem?_eq_getElem _⟩
              have y0 : wr.cell? ⟨ge, i * 9, none⟩ = some (.int .i64 (y.pl : Int)) := unhide HCE i y hy wr (unhide HIN).be 0 (by omega)
              have x0 : wr.cell? ⟨ge, k * 9, none⟩ = some (.int .i64 (z.pl : Int)) := unhide HCZ wr (unhide HIN).be 0 (by omega)
              have hiE : (i : Int) < (n : Int) := by omega
              have HY := hide hy
              clear hy
              by_cases hpe : y.pl = z.pl
              · have HVN : Hid (a < i + 1 → (i : Int) = (a : Int)) := fun g => by
                  obtain ⟨_, _, h3⟩ := unhide HA
                  by_cases e : a = i
                  · rw [e]
                  · exact absurd hpe (h3 i y (by omega) hik (unhide HY))
                rw [hpe] at y0
                clear hpe
                go_wp2_with fail
                go_quiet (fail)
                go_wp2_with fail
                go_roundg (k - (i + 1))
                case measure => omega
                case rel => exact ⟨i + 1, (i : Int), by omega, rfl, rfl, by go_num, HVN, (unhide HIN).drewN _⟩
              · have hne : ((y.pl : Int) == (z.pl : Int)) = false := by rw [beq_eq_false_iff_ne]; omega
                have HVN : Hid (a < i + 1 → v = (a : Int)) := fun g => by
                  obtain ⟨_, h2, _⟩ := unhide HA
                  by_cases e : a = i
                  · have := unhide HX
                    rw [e, unhide HY] at this
                    cases this
                    exact absurd h2 hpe
                  · exact unhide HV (by omega)
                clear hpe
                go_wp2_with fail
                go_quiet (fail)
                go_wp2_with fail
                go_roundg (k - (i + 1))
                case measure => omega
                case rel => exact ⟨i + 1, v, by omega, rfl, rfl, by go_num, HVN, (unhide HIN).drewN _⟩
            · have hikI : ¬ (i : Int) < (k : Int) := by omega
              have hv : v = (a : Int) := unhide HV (by have := (unhide HA).1; omega)
              subst hv
              have haI : (a : Int) < (n : Int) := by have := (unhide HA).1; omega
              have ha0 : (0 : Int) ≤ (a : Int) := by omega
              have haD : decide ((a : Int) < 0) = false := by simp
              have hxk := (unhide HH).right.ok x (List.mem_of_getElem? (unhide HX))
              have c1 := hxk.t
              have c2 := hxk.hi
              have c3 := hxk.lo
              have x5 : wr.cell? ⟨ge, k * 9 + 5, none⟩ = some (.int .i64 (po : Int)) := by rw [← unhide HPO]; exact unhide HCZ wr (unhide HIN).be 5 (by omega)
              have y8 : wr.cell? ⟨ge, a * 9 + 8, none⟩ = some (.int .i64 (po : Int)) := by rw [← unhide HPO, ← unhide HIO]; exact unhide HCE a x (unhide HX) wr (unhide HIN).be 8 (by omega)
              have hd9 : decide ((9 : Int) < (po : Int)) = false := by simp; omega
              have hp10 : (po : Int) < 10 := by omega
              have hp0 : (0 : Int) ≤ (po : Int) := by omega
              have nf := blk_free (unhide HIN).fb
              have n0 : wr.cell? ⟨w.heap.size, po, none⟩ = some (.bool (Hx.fullF (l.take k) po)) := bls_cell (unhide HIN).fb (by omega)
              have hq := unhide HT
              have e1 : decide ((z.t : Int) - ((x.t : Int) + (J : Int) + (x.hi : Int)) < (z.mn : Int)) = false := by simp; omega
              have e2 : decide ((z.mx : Int) < (z.t : Int) + (J : Int) - ((x.t : Int) + (x.lo : Int))) = false := by simp; omega
              have w1 : IntKind.i64.wrap ((z.t : Int) - ((x.t : Int) + (J : Int) + (x.hi : Int))) = (z.t : Int) - ((x.t : Int) + (J : Int) + (x.hi : Int)) := IntWalk.i64_in _ ⟨by omega, by omega⟩
              have w2 : IntKind.i64.wrap ((z.t : Int) + (J : Int) - ((x.t : Int) + (x.lo : Int))) = (z.t : Int) + (J : Int) - ((x.t : Int) + (x.lo : Int)) := IntWalk.i64_in _ ⟨by omega, by omega⟩
              clear hq hxk
              go_wp2_with fail
              go_quiet (fail)
              go_upto_region 17 with fail
              generalize hw2 : (World.drewN wr _).setCell ⟨w.heap.size, po, none⟩ (.bool false) = wx
              have HINX : Hid (InR w (Hx.outF (Hx.fullF (l.take k)) z) wx) := by
                rw [← hw2, ← Hx.outF_is (unhide HPO)]
                exact ((unhide HIN).drewN _).set po false
              clear hw2 HIN x5 y8 nf n0
              have x2 : wx.cell? ⟨ge, k * 9 + 2, none⟩ = some (.int .i64 (z.t : Int)) := unhide HCZ wx (unhide HINX).be 2 (by omega)
              have x6 : wx.cell? ⟨ge, k * 9 + 6, none⟩ = some (.int .i64 (z.mn : Int)) := unhide HCZ wx (unhide HINX).be 6 (by omega)
              have x7 : wx.cell? ⟨ge, k * 9 + 7, none⟩ = some (.int .i64 (z.mx : Int)) := unhide HCZ wx (unhide HINX).be 7 (by omega)
              have y2 : wx.cell? ⟨ge, a * 9 + 2, none⟩ = some (.int .i64 (x.t : Int)) := unhide HCE a x (unhide HX) wx (unhide HINX).be 2 (by omega)
              have y3 : wx.cell? ⟨ge, a * 9 + 3, none⟩ = some (.int .i64 (x.lo : Int)) := unhide HCE a x (unhide HX) wx (unhide HINX).be 3 (by omega)
              have y4 : wx.cell? ⟨ge, a * 9 + 4, none⟩ = some (.int .i64 (x.hi : Int)) := unhide HCE a x (unhide HX) wx (unhide HINX).be 4 (by omega)
              go_quiet (fail)
              go_wp2_with fail
              go_meet
              case rel => exact (unhide HINX).drewN _
        · have HNO := hide (Hx.outF_no (g := Hx.fullF (l.take k)) hout)
          go_wp2_with fail
          go_meet
          case rel => rw [unhide HNO]; exact unhide HINC
      case rest =>
      have HIND := hide hcut
      clear hcut HINC x5
      have x8 : wc.cell? ⟨ge, k * 9 + 8, none⟩ = some (.int .i64 z.inn) := unhide HCZ wc (unhide HIND).be 8 (by omega)
      have HFA := hide (Hx.fullF_at (unhide HZ))
      by_cases hinn : 0 ≤ z.inn
      · obtain ⟨pi, hpi⟩ : ∃ pi : Nat, z.inn = (pi : Int) := ⟨z.inn.toNat, by omega⟩
        have hiK := (unhide HH).into k z (unhide HZ) hinn
        have hnf := Hx.not_full (unhide HH).right (unhide HZ) hpi
        rw [hpi] at x8 hiK b4 hinn
        have HPI := hide hpi
        have hd1 : decide ((K : Int) ≤ (pi : Int)) = false := by simp; omega
        have hd2 : decide ((9 : Int) < (pi : Int)) = false := by simp; omega
        have hp10 : (pi : Int) < 10 := by omega
        have hnf2 : wc.cell? ⟨w.heap.size, pi, none⟩ = some (.bool false) := by rw [← hnf]; exact bls_cell (unhide HIND).fb (by omega)
        have nf := blk_free (unhide HIND).fb
        have HINE : Hid (∀ m, InR w (Hx.fullF (l.take (k + 1))) ((wc.drewN m).setCell ⟨w.heap.size, pi, none⟩ (.bool true))) := fun m => by
          rw [unhide HFA, ← Hx.inF_is (unhide HPI)]
          exact ((unhide HIND).drewN m).set pi true
        clear hnf hpi
        go_wp2_with fail
        go_roundg (n - (k + 1))
        case measure => omega
        case rel => exact ⟨k + 1, by omega, rfl, by go_num, by first | exact unhide HINE _ | exact unhide HINE 0⟩
      · have HNO : Hid (InR w (Hx.fullF (l.take (k + 1))) wc) := by
          rw [unhide HFA, Hx.inF_no hinn]
          exact unhide HIND
        go_wp2_with fail
        go_roundg (n - (k + 1))
        case measure => omega
        case rel => exact ⟨k + 1, by omega, rfl, by go_num, unhide HNO⟩
    · have hltI : ¬ (k : Int) < (n : Int) := by omega
      go_wp2_with fail
      go_returns
      exact ⟨rfl, (unhide HIN).be⟩
end Go.Proofs.YtppcnlkhdgmaiaaDoor
namespace Go.Proofs.YtppcnlkhdgmaiaaDoor
open Go.RowKit

def Hx.tightI (J : Nat) (L : List Hx.Lst) : Int := match Hx.firstTight J L with | some i => (i : Int) | none => -1
theorem Hx.tightAt_prev {J : Nat} {L : List Hx.Lst} {k : Nat} {y a : Hx.Lst} (hy : L[k + 1]? = some y) (ha : L[k]? = some a) : Hx.tightAt J L (k + 1) = Hx.hopeB J a.x y.x := by
  unfold Hx.tightAt
  rw [hy]
  simp only [Nat.add_sub_cancel, ha]
  simp [Hx.hopeB]
theorem Hx.tightI_some {J : Nat} {L : List Hx.Lst} {k : Nat} (hk : k < L.length) (h : ∀ i, i < k → Hx.tightAt J L i = false) (hh : Hx.tightAt J L k = true) : Hx.tightI J L = (k : Int) := by
  unfold Hx.tightI
  rw [Hx.firstTight_some hk h hh]
theorem Hx.tightI_none {J : Nat} {L : List Hx.Lst} (h : ∀ i, i < L.length → Hx.tightAt J L i = false) : Hx.tightI J L = -1 := by
  unfold Hx.tightI
  have : Hx.firstTight J L = none := by
    rw [Hx.firstTight, List.find?_eq_none]
    intro i hi
    simp [h i (List.mem_range.1 hi)]
  rw [this]

set_option maxRecDepth 100000 in
set_option maxHeartbeats 2000000 in
theorem tight_any (J K D : Nat) (L : List Hx.Lst) (v : Value) (w : World) (hJ : J < 1000) (hL : ∀ y ∈ L, KS y) (hpos : 0 < L.length) (hl : L.length ≤ 1000) (h0 : Hx.tightAt J L 0 = false)
    (ho : w.ownsRow 0 39 7 v L.length (ksCells L)) :
    Calls Tryd.prog 17 #[planV J K D v] w fun e w' => e = .returned (.int .i64 (Hx.tightI J L)) ∧ Below w.heap.size w w' := by
  obtain ⟨gs, caps, rfl, _, hgs⟩ := own_pos ho hpos
  have HO := hide ho
  have HL := hide hL
  obtain ⟨FIN, hFIN⟩ : ∃ FIN, FIN = Hx.tightI J L := ⟨_, rfl⟩
  rw [← hFIN]
  have HFIN := hide hFIN
  have HB0 := hide ((Below.refl w.heap.size w).alloc (Nat.le_refl _) (.cells #[.int .i64 (J : Int), .int .i64 (K : Int), .int .i64 (D : Int), .slice (some ⟨gs, 0, none⟩) L.length caps] 28))
  have HP0 := hide (blk_new w #[.int .i64 (J : Int), .int .i64 (K : Int), .int .i64 (D : Int), .slice (some ⟨gs, 0, none⟩) L.length caps] 28)
  have H0 := hide h0
  clear ho hL hFIN h0
  go_enter Tryd.func17, Tryd.ntmps17
  go_upto_region 1 with fail
  generalize w.alloc (.cells #[.int .i64 (J : Int), .int .i64 (K : Int), .int .i64 (D : Int), .slice (some ⟨gs, 0, none⟩) L.length caps] 28) = w1 at HB0 HP0 ⊢
  go_wp2_with fail
  go_loopg [3] (L.length - 1) (fun gk ii wr => ∃ k : Nat, k + 1 ≤ L.length ∧ gk = L.length - (k + 1) ∧ ii = .int .i64 ((k + 1 : Nat) : Int) ∧ Hid (∀ j, j < k + 1 → Hx.tightAt J L j = false) ∧ wr.heap[w.heap.size]? = some (.cells #[.int .i64 (J : Int), .int .i64 (K : Int), .int .i64 (D : Int), .slice (some ⟨gs, 0, none⟩) L.length caps] 28 (0, 0)) ∧ Below w.heap.size w wr)
  case atStart => exact ⟨0, hpos, rfl, rfl, fun j hj => by rw [show j = 0 by omega]; exact unhide H0, unhide HP0, unhide HB0⟩
  case round =>
    clear HP0 HB0
    obtain ⟨k, hk, rfl, rfl, HN, hblk, hbe⟩ := hrel
    have p0 : wr.cell? ⟨w.heap.size, 0, none⟩ = some (.int .i64 (J : Int)) := blk_cell hblk 0
    have p3 : wr.cell? ⟨w.heap.size, 3, none⟩ = some (.slice (some ⟨gs, 0, none⟩) L.length caps) := blk_cell hblk 3
    have HBLK := hide hblk
    have HBE := hide hbe
    clear hblk hbe
    obtain ⟨i, hi⟩ : ∃ i, i = k + 1 := ⟨_, rfl⟩
    rw [← hi] at HN hk ⊢
    have HI := hide hi
    have hki : k < i := by omega
    clear hi
    by_cases hlt : i < L.length
    · have hltI : (i : Int) < (L.length : Int) := by omega
      obtain ⟨y, hy⟩ : ∃ y, L[i]? = some y := ⟨L[i], List.getElem?_eq_getElem hlt⟩
      obtain ⟨a, ha⟩ : ∃ a, L[k]? = some a := ⟨L[k], List.getElem?_eq_getElem (by omega)⟩
      have hks := unhide HL y (List.mem_of_getElem? hy)
      have hka := unhide HL a (List.mem_of_getElem? ha)
      have cx : ∀ t, t < 7 → wr.cell? ⟨gs, i * 7 + t, none⟩ = (kstCells y)[t]? := fun t h => by
        rw [(unhide HBE).cell (p := ⟨gs, i * 7 + t, none⟩) hgs]; exact own_at kstCells 7 (fun _ => rfl) (unhide HO) rfl i y hy t h
      have ca : ∀ t, t < 7 → wr.cell? ⟨gs, k * 7 + t, none⟩ = (kstCells a)[t]? := fun t h => by
        rw [(unhide HBE).cell (p := ⟨gs, k * 7 + t, none⟩) hgs]; exact own_at kstCells 7 (fun _ => rfl) (unhide HO) rfl k a ha t h
      have x0 : wr.cell? ⟨gs, i * 7, none⟩ = some (.int .i64 (y.pl : Int)) := cx 0 (by omega)
      have x1 : wr.cell? ⟨gs, i * 7 + 1, none⟩ = some (.int .i64 (y.no : Int)) := cx 1 (by omega)
      have x2 : wr.cell? ⟨gs, i * 7 + 2, none⟩ = some (.int .i64 (y.x.lo : Int)) := cx 2 (by omega)
      have x3 : wr.cell? ⟨gs, i * 7 + 3, none⟩ = some (.int .i64 (y.x.hi : Int)) := cx 3 (by omega)
      have x4 : wr.cell? ⟨gs, i * 7 + 4, none⟩ = some (.bool y.x.rest) := cx 4 (by omega)
      have x5 : wr.cell? ⟨gs, i * 7 + 5, none⟩ = some (.int .i64 (y.x.mn : Int)) := cx 5 (by omega)
      have x6 : wr.cell? ⟨gs, i * 7 + 6, none⟩ = some (.int .i64 (y.x.mx : Int)) := cx 6 (by omega)
      have HT : Hid (Hx.tightAt J L i = Hx.hopeB J a.x y.x) := by show _ = _; rw [unhide HI] at hy ⊢; exact Hx.tightAt_prev hy ha
      have HA2 : Hid (∀ w', Below w.heap.size w w' → w'.cell? ⟨gs, k * 7 + 2, none⟩ = some (.int .i64 (a.x.lo : Int)) ∧ w'.cell? ⟨gs, k * 7 + 3, none⟩ = some (.int .i64 (a.x.hi : Int))) := fun w' hb => by
        have c : ∀ t, t < 7 → w'.cell? ⟨gs, k * 7 + t, none⟩ = (kstCells a)[t]? := fun t h => by
          rw [hb.cell (p := ⟨gs, k * 7 + t, none⟩) hgs]; exact own_at kstCells 7 (fun _ => rfl) (unhide HO) rfl k a ha t h
        exact ⟨c 2 (by omega), c 3 (by omega)⟩
      clear cx ca hy ha
      go_upto_region 5 with fail
      have HX := hide (bN #[.int .i64 (y.pl : Int), .int .i64 (y.no : Int), .int .i64 (y.x.lo : Int), .int .i64 (y.x.hi : Int), .bool y.x.rest, .int .i64 (y.x.mn : Int), .int .i64 (y.x.mx : Int)] 39 (w := wr) rfl)
      have HBLK1 := hide (bA (.cells #[.int .i64 (y.pl : Int), .int .i64 (y.no : Int), .int .i64 (y.x.lo : Int), .int .i64 (y.x.hi : Int), .bool y.x.rest, .int .i64 (y.x.mn : Int), .int .i64 (y.x.mx : Int)] 39) (unhide HBLK))
      have HBE1 := hide (belA (.cells #[.int .i64 (y.pl : Int), .int .i64 (y.no : Int), .int .i64 (y.x.lo : Int), .int .i64 (y.x.hi : Int), .bool y.x.rest, .int .i64 (y.x.mn : Int), .int .i64 (y.x.mx : Int)] 39) (unhide HBE))
      obtain ⟨tb, htb⟩ : ∃ tb, tb = wr.heap.size := ⟨_, rfl⟩
      rw [← htb] at HX ⊢
      clear HBLK HBE x0 x1 x2 x3 x4 x5 x6 htb p3 p0
      generalize wr.alloc (.cells #[.int .i64 (y.pl : Int), .int .i64 (y.no : Int), .int .i64 (y.x.lo : Int), .int .i64 (y.x.hi : Int), .bool y.x.rest, .int .i64 (y.x.mn : Int), .int .i64 (y.x.mx : Int)] 39) = wx at HX HBLK1 HBE1 ⊢
      have z4 : wx.cell? ⟨tb, 4, none⟩ = some (.bool y.x.rest) := blk_cell (unhide HX) 4
      have z5 : wx.cell? ⟨tb, 5, none⟩ = some (.int .i64 (y.x.mn : Int)) := blk_cell (unhide HX) 5
      have z6 : wx.cell? ⟨tb, 6, none⟩ = some (.int .i64 (y.x.mx : Int)) := blk_cell (unhide HX) 6
      have p0 : wx.cell? ⟨w.heap.size, 0, none⟩ = some (.int .i64 (J : Int)) := blk_cell (unhide HBLK1) 0
      have p3 : wx.cell? ⟨w.heap.size, 3, none⟩ = some (.slice (some ⟨gs, 0, none⟩) L.length caps) := blk_cell (unhide HBLK1) 3
      obtain ⟨a2, a3⟩ := unhide HA2 wx (unhide HBE1)
      cases hr : y.x.rest with
      | false =>
        rw [hr] at z4
        have HNN : Hid (∀ j, j < i + 1 → Hx.tightAt J L j = false) := fun j hj => by
          by_cases e : j = i
          · subst e; rw [unhide HT]; simp [Hx.hopeB, hr]
          · exact unhide HN j (by omega)
        clear hr
        go_quiet (fail)
        go_wp2_with fail
        go_roundg (L.length - (i + 1))
        case measure => omega
        case rel => exact ⟨i, by omega, rfl, by go_num, HNN, bQ _ (unhide HBLK1), below_drewN (unhide HBE1) _⟩
      | true =>
        rw [hr] at z4
        have b1 := hks.mn
        have b2 := hks.mx
        have b3 := hka.lo
        have b4 := hka.hi
        have hwI : IntKind.i64.wrap ((i : Int) - 1) = (k : Int) := by
          rw [show (i : Int) - 1 = (k : Int) by have := unhide HI; omega]
          exact IntWalk.i64_in _ ⟨by omega, by omega⟩
        have hk1 : (0 : Int) ≤ (k : Int) := by omega
        have hk2 : (k : Int) < (L.length : Int) := by omega
        by_cases hh : Hx.hopeB J a.x y.x = true
        · have hd : decide ((a.x.lo : Int) + (y.x.mx : Int) < 2 * (J : Int) + (a.x.hi : Int) + (y.x.mn : Int)) = true := by
            simp [Hx.hopeB, hr] at hh
            simp
            omega
          have HF : Hid (FIN = (i : Int)) := by show _ = _; rw [unhide HFIN]; exact Hx.tightI_some hlt (unhide HN) (by rw [unhide HT]; exact hh)
          clear hr hh
          go_quiet (fail)
          go_wp2_with fail
          go_returns
          rw [unhide HF]
          exact ⟨rfl, below_drewN (unhide HBE1) _⟩
        · have hd : decide ((a.x.lo : Int) + (y.x.mx : Int) < 2 * (J : Int) + (a.x.hi : Int) + (y.x.mn : Int)) = false := by
            simp [Hx.hopeB, hr] at hh
            simp
            omega
          have HNN : Hid (∀ j, j < i + 1 → Hx.tightAt J L j = false) := fun j hj => by
            by_cases e : j = i
            · subst e; rw [unhide HT]; simpa using hh
            · exact unhide HN j (by omega)
          clear hr hh
          go_quiet (fail)
          go_wp2_with fail
          go_roundg (L.length - (i + 1))
          case measure => omega
          case rel => exact ⟨i, by omega, rfl, by go_num, HNN, bQ _ (unhide HBLK1), below_drewN (unhide HBE1) _⟩
    · have hltI : ¬ (i : Int) < (L.length : Int) := by omega
      have HF : Hid (FIN = -1) := by show _ = _; rw [unhide HFIN]; exact Hx.tightI_none (fun j hj => unhide HN j (by omega))
      go_wp2_with fail
      go_returns
      rw [unhide HF]
      exact ⟨rfl, unhide HBE⟩
end Go.Proofs.YtppcnlkhdgmaiaaDoor
namespace Go.Proofs.YtppcnlkhdgmaiaaDoor
namespace Hx

theorem tightI_cases (J : Nat) (L : List Lst) : (∃ i : Nat, i < L.length ∧ firstTight J L = some i ∧ tightI J L = (i : Int)) ∨ (firstTight J L = none ∧ tightI J L = -1) := by
  unfold tightI
  cases h : firstTight J L with
  | none => exact Or.inr ⟨rfl, rfl⟩
  | some i =>
    refine Or.inl ⟨i, ?_, rfl, rfl⟩
    unfold firstTight at h
    exact List.mem_range.1 (List.mem_of_find?_eq_some h)
theorem tight0 {J : Nat} {ps : List (List Stp)} (h : GoodS ps) : tightAt J (labs ps) 0 = false := by
  have hp : 0 < ps.length := List.length_pos_iff.2 h.pos
  have hq : ps[0]? = some ps[0] := List.getElem?_eq_getElem hp
  obtain ⟨x, r, e, hx⟩ := h.head _ (List.mem_of_getElem? hq)
  have := labs_at (p := 0) (n := 0) hq (by rw [e]; rfl : (ps[0])[0]? = some x)
  rw [show offP ps 0 + 0 = 0 from rfl] at this
  unfold tightAt
  rw [this]
  simp [hx]
/-- What Kept asks. -/
structure KeptP (J K D : Nat) (ps : List (List Stp)) (N : Nat) (A : List UInt8 × Bool × Int) : Prop where
  tight : ∀ i : Nat, tightI J (labs ps) = (i : Int) → ∃ y, (labs ps)[i]? = some y ∧ y.pl < 4 ∧ y.no < 10 ∧ A.1 = [UInt8.ofNat (97 + y.pl)] ++ Lib.itoa (y.no : Int) ∧ A.2.2 = 6
  loose : tightI J (labs ps) = -1 → (A.2.2 = 0 ∧ ∃ e o f, Told J K D ps A.1 e o f ∧ e ≤ (D : Int)) ∨ (A.1 = [] ∧ A.2.2 = 8) ∨ (A.1 = [] ∧ A.2.2 = 7 ∧ 0 < N)
theorem kept_is {J K D : Nat} {ps : List (List Stp)} (hs : GoodS ps) (hg : GoodP J K D ps) {N : Nat} (hN : N ≤ 1000) : KeptP J K D ps N (planS J K D ps (N : Int)) := by
  rw [planS_err (by omega) (by omega), Int.toNat_natCast]
  rcases tightI_cases J (labs ps) with ⟨i, hi, hf, ht⟩ | ⟨hf, ht⟩
  · rw [hf]
    simp only [Option.isSome_some, if_true]
    refine ⟨fun k hk => ?_, fun h => by rw [ht] at h; omega⟩
    rw [ht] at hk
    have hk : k = i := by omega
    subst hk
    obtain ⟨p, n, q, x, hq, hx, rfl⟩ := labs_inv hi
    have hat := labs_at hq hx
    have hks := hs.ks _ (List.mem_of_getElem? hat)
    have e1 : tightT J ps = ⟨x, p, n, restAfter (labs ps) (offP ps p + n)⟩ := by
      unfold tightT
      rw [hf]
      exact turn_pl hq hx
    refine ⟨_, hat, hks.pl, hks.no, ?_, rfl⟩
    rw [e1, ← dec_is, decF_one hks.no]
    rfl
  · rw [hf]
    simp only [Option.isSome_none, Bool.false_eq_true, if_false]
    refine ⟨fun k hk => by rw [ht] at hk; omega, fun _ => ?_⟩
    unfold planB
    cases hb : bestF J D ps (((ordersF K ps).take N).map (·.1)) with
    | some b =>
      have ho := told_of hg hb
      exact Or.inl ⟨rfl, _, _, _, ho, by rw [ho.en]; exact ho.tm.time⟩
    | none =>
      refine Or.inr ?_
      by_cases h0 : N = 0
      · left
        refine ⟨rfl, ?_⟩
        show (if moreF K ps N then (8 : Int) else 7) = 8
        unfold moreF
        rw [if_pos h0]; rfl
      · cases hm : moreF K ps N
        · right; exact ⟨rfl, rfl, by omega⟩
        · left; exact ⟨rfl, rfl⟩
end Hx
end Go.Proofs.YtppcnlkhdgmaiaaDoor
