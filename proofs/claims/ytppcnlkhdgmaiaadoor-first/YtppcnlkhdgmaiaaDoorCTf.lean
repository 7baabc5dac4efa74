/- What hatchkeep's whole answers: that the entries have each step of a plan once, as it is, in its plate's order. The plain mathematics of what Plan tells: it has each step of the plan once. The plain mathematics of what Plan tells: its times hold whatever the clock and the steps do. The plain mathematics of Kept: what Plan answers of a plan's text, by whether a rest is hopeless. The plain mathematics of First: the least order, its earliest times, its places, what is written of it. -/
import Derived.Test.YtppcnlkhdgmaiaaDoorCPlC
import Derived.Test.YtppcnlkhdgmaiaaDoorCSm
namespace Go.Proofs.YtppcnlkhdgmaiaaDoor
open Go.RowKit

/-- A table has each step of a plan once, as it is, in its plate's order. -/
structure Hx.WholeP (L : List Hx.Lst) (l : List Hx.TStp) : Prop where
  len : l.length = L.length
  pl : ∀ (k : Nat) (z : Hx.TStp), l[k]? = some z → z.pl < 4 ∧ z.no = (Hx.holdF (l.take k) z.pl).2
  st : ∀ (k : Nat) (z : Hx.TStp), l[k]? = some z → ∃ (i : Nat) (y : Hx.Lst), L[i]? = some y ∧ y.pl = z.pl ∧ y.no = z.no ∧ y.x.lo = z.lo ∧ y.x.hi = z.hi ∧ y.x.mn = z.mn ∧ y.x.mx = z.mx ∧ y.x.rest = decide (0 ≤ z.out)
  un : ∀ (i j : Nat) (y z : Hx.Lst), L[i]? = some y → L[j]? = some z → y.pl = z.pl → y.no = z.no → i = j
theorem arw_cell {w : World} {g : Nat} {zs : List Int} {T : TypeId} (h : w.heap[g]? = some (.cells (ints zs).toArray T (0, 0))) {j : Nat} (hj : j < zs.length) : w.cell? ⟨g, j, none⟩ = some (.int .i64 (zs.getD j 0)) := by
  rw [blk_cell h j]
  simp [ints, hj]
theorem arw_set (zs : List Int) (p : Nat) (v : Int) : (ints zs).toArray.setIfInBounds p (.int .i64 v) = (ints (zs.set p v)).toArray := by simp [ints, List.map_set]
/-- What lies in memory while whole looks. -/
structure InW (w : World) (P : Array Value) (zs : List Int) (w' : World) : Prop where
  pb : w'.heap[w.heap.size]? = some (.cells P 28 (0, 0))
  nb : w'.heap[w.heap.size + 1]? = some (.cells (ints zs).toArray 106 (0, 0))
  be : Below w.heap.size w w'
theorem InW.alloc {w P zs w'} (h : InW w P zs w') (o : Obj) : InW w P zs (w'.alloc o) := ⟨bA o h.pb, bA o h.nb, belA o h.be⟩
theorem InW.drewN {w P zs w'} (h : InW w P zs w') (n : Nat) : InW w P zs (w'.drewN n) := ⟨h.pb, h.nb, below_drewN h.be n⟩
theorem InW.set {w P zs w'} (h : InW w P zs w') (p : Nat) (v : Int) : InW w P (zs.set p v) (w'.setCell ⟨w.heap.size + 1, p, none⟩ (.int .i64 v)) := by
  refine ⟨blk_set_other h.pb (by omega) _ _, ?_, h.be.setCell (by show _ ≤ w.heap.size + 1; omega) _⟩
  rw [← arw_set]
  exact blk_set h.nb p _

set_option maxRecDepth 100000 in
set_option maxHeartbeats 4000000 in
theorem whole_any (J K D : Nat) (L : List Hx.Lst) (l : List Hx.TStp) (v ev : Value) (w : World) (hL : ∀ y ∈ L, KS y) (hpos : 0 < L.length) (hl : L.length ≤ 1000) (hok : ∀ z ∈ l, Hx.TOk z) (hh : Hx.WholeP L l)
    (ho : w.ownsRow 0 39 7 v L.length (ksCells L)) (he : w.ownsRow 0 55 9 ev (l.map Hx.entOf).length (entsCells (l.map Hx.entOf))) :
    Calls Tryd.prog 21 #[planV J K D v, ev] w fun e w' => e = .returned (.bool true) ∧ Below w.heap.size w w' := by
  have hlen := hh.len
  rw [List.length_map, hlen] at he
  obtain ⟨gs, caps, rfl, _, hgs⟩ := own_pos ho hpos
  obtain ⟨ge, cape, rfl, _, hge⟩ := own_pos he hpos
  have HO := hide ho
  have HE := hide he
  have HL := hide hL
  have HH := hide hh
  have HOK := hide hok
  have HLEN := hide hlen
  obtain ⟨n, hn⟩ : ∃ n, n = L.length := ⟨_, rfl⟩
  have HNL := hide hn
  rw [← hn] at hl hpos ⊢
  have HI0 : Hid (InW w #[.int .i64 (J : Int), .int .i64 (K : Int), .int .i64 (D : Int), .slice (some ⟨gs, 0, none⟩) n caps] (Hx.doneL []) ((w.alloc (.cells #[.int .i64 (J : Int), .int .i64 (K : Int), .int .i64 (D : Int), .slice (some ⟨gs, 0, none⟩) n caps] 28)).alloc (.cells #[.int .i64 0, .int .i64 0, .int .i64 0, .int .i64 0] 106))) :=
    ⟨bA _ (blk_new w _ _), bN _ _ (by simp), belA _ (belA _ (Below.refl _ _))⟩
  clear ho he hL hh hok hlen hn
  go_enter Tryd.func21, Tryd.ntmps21
  go_upto_region 2 with fail
  generalize (w.alloc (.cells #[.int .i64 (J : Int), .int .i64 (K : Int), .int .i64 (D : Int), .slice (some ⟨gs, 0, none⟩) n caps] 28)).alloc (.cells #[.int .i64 0, .int .i64 0, .int .i64 0, .int .i64 0] 106) = W1 at HI0 ⊢
  go_wp2_with fail
  go_loopg [6] n (fun gk kk wr => ∃ k : Nat, k ≤ n ∧ gk = n - k ∧ kk = .int .i64 (k : Int) ∧ InW w #[.int .i64 (J : Int), .int .i64 (K : Int), .int .i64 (D : Int), .slice (some ⟨gs, 0, none⟩) n caps] (Hx.doneL (l.take k)) wr)
  case atStart => exact ⟨0, Nat.zero_le _, rfl, rfl, unhide HI0⟩
  case round =>
    clear HI0
    obtain ⟨k, hk, rfl, rfl, hin⟩ := hrel
    have HIN := hide hin
    have p3 : wr.cell? ⟨w.heap.size, 3, none⟩ = some (.slice (some ⟨gs, 0, none⟩) n caps) := blk_cell hin.pb 3
    clear hin
    by_cases hlt : k < n
    · have hltI : (k : Int) < (n : Int) := by omega
      obtain ⟨z, hz⟩ : ∃ z, l[k]? = some z := ⟨l[k]'(by rw [unhide HLEN, ← unhide HNL]; exact hlt), List.getElem?_eq_getElem _⟩
      obtain ⟨hp4, hno⟩ := (unhide HH).pl k z hz
      obtain ⟨i0, y0, hy0, s1, s2, s3, s4, s5, s6, s7⟩ := (unhide HH).st k z hz
      have HCE : Hid (∀ w', Below w.heap.size w w' → ∀ t, t < 9 → w'.cell? ⟨ge, k * 9 + t, none⟩ = (entCells (Hx.entOf z))[t]?) := fun w' hb t ht => by
        rw [hb.cell (p := ⟨ge, k * 9 + t, none⟩) hge]
        exact own_at entCells 9 (fun _ => rfl) (unhide HE) (by rw [List.length_map]; exact (unhide HLEN).symm) k _ (by rw [List.getElem?_map, hz]; rfl) t ht
      have e0 : wr.cell? ⟨ge, k * 9, none⟩ = some (.int .i64 (z.pl : Int)) := unhide HCE wr (unhide HIN).be 0 (by omega)
      have e1 : wr.cell? ⟨ge, k * 9 + 1, none⟩ = some (.int .i64 (z.no : Int)) := unhide HCE wr (unhide HIN).be 1 (by omega)
      have n0 : wr.cell? ⟨w.heap.size + 1, z.pl, none⟩ = some (.int .i64 (z.no : Int)) := by
        rw [arw_cell (unhide HIN).nb (by rw [Hx.doneL_len]; exact hp4), List.getD_eq_getElem?_getD, Hx.doneL_get _ hp4, hno]; rfl
      have nf := blk_free (unhide HIN).nb
      have d1 : decide ((z.pl : Int) < 0) = false := by simp
      have d2 : decide ((3 : Int) < (z.pl : Int)) = false := by simp; omega
      have hpI : (z.pl : Int) < 4 := by omega
      have hp0 : (0 : Int) ≤ (z.pl : Int) := by omega
      have hnb := ((unhide HOK) z (List.mem_of_getElem? hz)).no
      have HIN2 : Hid (InW w #[.int .i64 (J : Int), .int .i64 (K : Int), .int .i64 (D : Int), .slice (some ⟨gs, 0, none⟩) n caps] (Hx.doneL (l.take (k + 1))) (wr.setCell ⟨w.heap.size + 1, z.pl, none⟩ (.int .i64 ((z.no : Int) + 1)))) := by
        have e : Hx.doneL (l.take (k + 1)) = (Hx.doneL (l.take k)).set z.pl ((z.no : Int) + 1) := by rw [Hx.take_more hz, Hx.doneL_snoc, hno]
        rw [e]
        exact (unhide HIN).set z.pl _
      have HZ := hide hz
      have HNO := hide hno
      have HS := hide (⟨hy0, s1, s2, s3, s4, s5, s6, s7⟩ : _ ∧ _ ∧ _ ∧ _ ∧ _ ∧ _ ∧ _ ∧ _)
      clear hz hno hy0 s1 s2 s3 s4 s5 s6 s7
      go_wp2_with fail
      go_quiet (fail)
      go_upto_region 8 with fail
      generalize hw2 : (World.drewN wr _).setCell ⟨w.heap.size + 1, z.pl, none⟩ (.int .i64 ((z.no : Int) + 1)) = w2
      have HIN3 : Hid (InW w #[.int .i64 (J : Int), .int .i64 (K : Int), .int .i64 (D : Int), .slice (some ⟨gs, 0, none⟩) n caps] (Hx.doneL (l.take (k + 1))) w2) := by rw [← hw2]; exact (unhide HIN2).drewN _
      clear hw2 HIN2 HIN e0 e1 n0 nf p3 d1 d2 hpI hp0
      go_wp2_with fail
      go_loopg [7, 8] n (fun gk ff ii wr => ∃ i : Nat, i ≤ n ∧ gk = n - i ∧ ii = .int .i64 (i : Int) ∧ ff = .bool (decide (i0 < i)) ∧ InW w #[.int .i64 (J : Int), .int .i64 (K : Int), .int .i64 (D : Int), .slice (some ⟨gs, 0, none⟩) n caps] (Hx.doneL (l.take (k + 1))) wr)
      case atStart => exact ⟨0, Nat.zero_le _, rfl, rfl, rfl, unhide HIN3⟩
      case round =>
        clear HIN3
        obtain ⟨i, hi, rfl, rfl, rfl, hin⟩ := hrel
        have p3 : wr.cell? ⟨w.heap.size, 3, none⟩ = some (.slice (some ⟨gs, 0, none⟩) n caps) := blk_cell hin.pb 3
        have HIN4 := hide hin
        clear hin
        by_cases hlt2 : i < n
        · have hlt2I : (i : Int) < (n : Int) := by omega
          obtain ⟨y, hy⟩ : ∃ y, L[i]? = some y := ⟨L[i]'(by rw [← unhide HNL]; exact hlt2), List.getElem?_eq_getElem _⟩
          have cx : ∀ t, t < 7 → wr.cell? ⟨gs, i * 7 + t, none⟩ = (kstCells y)[t]? := fun t h => by
            rw [(unhide HIN4).be.cell (p := ⟨gs, i * 7 + t, none⟩) hgs]; exact own_at kstCells 7 (fun _ => rfl) (unhide HO) rfl i y hy t h
          have x0 : wr.cell? ⟨gs, i * 7, none⟩ = some (.int .i64 (y.pl : Int)) := cx 0 (by omega)
          have x1 : wr.cell? ⟨gs, i * 7 + 1, none⟩ = some (.int .i64 (y.no : Int)) := cx 1 (by omega)
          have x2 : wr.cell? ⟨gs, i * 7 + 2, none⟩ = some (.int .i64 (y.x.lo : Int)) := cx 2 (by omega)
          have x3 : wr.cell? ⟨gs, i * 7 + 3, none⟩ = some (.int .i64 (y.x.hi : Int)) := cx 3 (by omega)
          have x4 : wr.cell? ⟨gs, i * 7 + 4, none⟩ = some (.bool y.x.rest) := cx 4 (by omega)
          have x5 : wr.cell? ⟨gs, i * 7 + 5, none⟩ = some (.int .i64 (y.x.mn : Int)) := cx 5 (by omega)
          have x6 : wr.cell? ⟨gs, i * 7 + 6, none⟩ = some (.int .i64 (y.x.mx : Int)) := cx 6 (by omega)
          have HYI : Hid (y.pl = z.pl → y.no = z.no → i = i0) := fun g1 g2 => by
            obtain ⟨hy0, s1, s2, _⟩ := unhide HS
            exact (unhide HH).un i i0 y y0 hy hy0 (by rw [g1, s1]) (by rw [g2, s2])
          have HYE : Hid (i = i0 → y.pl = z.pl ∧ y.no = z.no ∧ y.x.lo = z.lo ∧ y.x.hi = z.hi ∧ y.x.mn = z.mn ∧ y.x.mx = z.mx ∧ y.x.rest = decide (0 ≤ z.out)) := fun g => by
            obtain ⟨hy0, s1, s2, s3, s4, s5, s6, s7⟩ := unhide HS
            rw [← g, hy] at hy0
            cases hy0
            exact ⟨s1, s2, s3, s4, s5, s6, s7⟩
          clear cx hy
          go_upto_region 13 with fail
          have HX := hide (bN #[.int .i64 (y.pl : Int), .int .i64 (y.no : Int), .int .i64 (y.x.lo : Int), .int .i64 (y.x.hi : Int), .bool y.x.rest, .int .i64 (y.x.mn : Int), .int .i64 (y.x.mx : Int)] 39 (w := wr) rfl)
          have HIN5 := hide ((unhide HIN4).alloc (.cells #[.int .i64 (y.pl : Int), .int .i64 (y.no : Int), .int .i64 (y.x.lo : Int), .int .i64 (y.x.hi : Int), .bool y.x.rest, .int .i64 (y.x.mn : Int), .int .i64 (y.x.mx : Int)] 39))
          obtain ⟨tb, htb⟩ : ∃ tb, tb = wr.heap.size := ⟨_, rfl⟩
          rw [← htb] at HX ⊢
          clear HIN4 x0 x1 x2 x3 x4 x5 x6 htb p3
          generalize wr.alloc (.cells #[.int .i64 (y.pl : Int), .int .i64 (y.no : Int), .int .i64 (y.x.lo : Int), .int .i64 (y.x.hi : Int), .bool y.x.rest, .int .i64 (y.x.mn : Int), .int .i64 (y.x.mx : Int)] 39) = wx at HX HIN5 ⊢
          have e0 : wx.cell? ⟨ge, k * 9, none⟩ = some (.int .i64 (z.pl : Int)) := unhide HCE wx (unhide HIN5).be 0 (by omega)
          have e1 : wx.cell? ⟨ge, k * 9 + 1, none⟩ = some (.int .i64 (z.no : Int)) := unhide HCE wx (unhide HIN5).be 1 (by omega)
          have z0 : wx.cell? ⟨tb, 0, none⟩ = some (.int .i64 (y.pl : Int)) := blk_cell (unhide HX) 0
          have z1 : wx.cell? ⟨tb, 1, none⟩ = some (.int .i64 (y.no : Int)) := blk_cell (unhide HX) 1
          by_cases hii : i = i0
          · obtain ⟨s1, s2, s3, s4, s5, s6, s7⟩ := unhide HYE hii
            rw [s1] at z0
            rw [s2] at z1
            have z2 : wx.cell? ⟨tb, 2, none⟩ = some (.int .i64 (z.lo : Int)) := by rw [← s3]; exact blk_cell (unhide HX) 2
            have z3 : wx.cell? ⟨tb, 3, none⟩ = some (.int .i64 (z.hi : Int)) := by rw [← s4]; exact blk_cell (unhide HX) 3
            have z4 : wx.cell? ⟨tb, 4, none⟩ = some (.bool (decide (0 ≤ z.out))) := by rw [← s7]; exact blk_cell (unhide HX) 4
            have z5 : wx.cell? ⟨tb, 5, none⟩ = some (.int .i64 (z.mn : Int)) := by rw [← s5]; exact blk_cell (unhide HX) 5
            have z6 : wx.cell? ⟨tb, 6, none⟩ = some (.int .i64 (z.mx : Int)) := by rw [← s6]; exact blk_cell (unhide HX) 6
            have e3 : wx.cell? ⟨ge, k * 9 + 3, none⟩ = some (.int .i64 (z.lo : Int)) := unhide HCE wx (unhide HIN5).be 3 (by omega)
            have e4 : wx.cell? ⟨ge, k * 9 + 4, none⟩ = some (.int .i64 (z.hi : Int)) := unhide HCE wx (unhide HIN5).be 4 (by omega)
            have e5 : wx.cell? ⟨ge, k * 9 + 5, none⟩ = some (.int .i64 z.out) := unhide HCE wx (unhide HIN5).be 5 (by omega)
            have e6 : wx.cell? ⟨ge, k * 9 + 6, none⟩ = some (.int .i64 (z.mn : Int)) := unhide HCE wx (unhide HIN5).be 6 (by omega)
            have e7 : wx.cell? ⟨ge, k * 9 + 7, none⟩ = some (.int .i64 (z.mx : Int)) := unhide HCE wx (unhide HIN5).be 7 (by omega)
            have HII := hide hii
            clear s1 s2 s3 s4 s5 s6 s7 HX HYE HYI hii
            by_cases hout : 0 ≤ z.out
            all_goals
              go_quiet (fail)
              go_wp2_with fail
              go_quiet (fail)
              go_wp2_with fail
              go_roundg (n - (i + 1))
              case measure => omega
              case rel => exact ⟨i + 1, by omega, rfl, by go_num, by have := unhide HII; simp; omega, (unhide HIN5).drewN _⟩
          · have hdd : decide (i0 < i + 1) = decide (i0 < i) := by rw [Bool.eq_iff_iff, decide_eq_true_eq, decide_eq_true_eq]; omega
            have HDD := hide hdd
            by_cases hpe : y.pl = z.pl
            · have hne : ¬ y.no = z.no := fun g => hii (unhide HYI hpe g)
              have hneI : ((y.no : Int) == (z.no : Int)) = false := by rw [beq_eq_false_iff_ne]; omega
              rw [hpe] at z0
              clear hdd hpe hne hii HYE HYI
              go_quiet (fail)
              go_wp2_with fail
              go_roundg (n - (i + 1))
              case measure => omega
              case rel => exact ⟨i + 1, by omega, rfl, by go_num, by rw [unhide HDD], (unhide HIN5).drewN _⟩
            · have hneI : ((y.pl : Int) == (z.pl : Int)) = false := by rw [beq_eq_false_iff_ne]; omega
              clear hdd hpe hii HYE HYI
              go_quiet (fail)
              go_wp2_with fail
              go_roundg (n - (i + 1))
              case measure => omega
              case rel => exact ⟨i + 1, by omega, rfl, by go_num, by rw [unhide HDD], (unhide HIN5).drewN _⟩
        · have hlt2I : ¬ (i : Int) < (n : Int) := by omega
          have hlt0 : i0 < i := by
            have := (List.getElem?_eq_some_iff.1 (unhide HS).1).1
            have := unhide HNL
            omega
          rw [decide_eq_true hlt0]
          go_wp2_with fail
          go_roundg (n - (k + 1))
          case measure => omega
          case rel => exact ⟨k + 1, by omega, rfl, by go_num, unhide HIN4⟩
    · have hltI : ¬ (k : Int) < (n : Int) := by omega
      go_wp2_with fail
      go_returns
      exact ⟨rfl, (unhide HIN).be⟩
end Go.Proofs.YtppcnlkhdgmaiaaDoor
namespace Go.Proofs.YtppcnlkhdgmaiaaDoor
namespace Hx

theorem labs_idx {ps : List (List Stp)} {i : Nat} {y : Lst} (h : (labs ps)[i]? = some y) : i = offP ps y.pl + y.no := by
  obtain ⟨p, n, q, x, hq, hx, rfl⟩ := labs_inv (getElem?_lt h)
  rw [labs_at hq hx] at h
  cases h
  rfl
theorem Tm.whole {J K D ps o f} (h : Tm J K D ps o f) (hs : GoodS ps) : WholeP (labs ps) (ttab ps o f) := by
  refine ⟨by rw [ttab_len, h.len], fun k z hz => ?_, fun k z hz => ?_, fun i j y z hy hz e1 e2 => ?_⟩
  · have hk : k < o.length := by have := getElem?_lt hz; rw [ttab_len] at this; exact this
    obtain ⟨r, nx, p, q, x, hat⟩ := h.at hk
    rw [hat.row f] at hz
    cases hz
    obtain ⟨a1, _⟩ := good_len h.good hat.hq hat.hx
    refine ⟨a1, ?_⟩
    show nx p = (holdF ((ttab ps o f).take k) p).2
    rw [h.hold k (by omega) r nx hat.e p]
  · have hk : k < o.length := by have := getElem?_lt hz; rw [ttab_len] at this; exact this
    obtain ⟨r, nx, p, q, x, hat⟩ := h.at hk
    rw [hat.row f] at hz
    cases hz
    have hn := (hs.stp q (List.mem_of_getElem? hat.hq) x (List.mem_of_getElem? hat.hx)).2.2.2.2.2.2.2
    have hp := getElem?_lt hat.hq
    obtain ⟨u1, _⟩ := under_bump hat.tat
    refine ⟨offP ps p + nx p, ⟨p, nx p, x⟩, labs_at hat.hq hat.hx, rfl, rfl, rfl, rfl, ?_, ?_, ?_⟩
    · show x.mn = if x.rest then x.mn else 0
      cases hr : x.rest
      · exact (hn hr).1
      · rfl
    · show x.mx = if x.rest then x.mx else 0
      cases hr : x.rest
      · exact (hn hr).2
      · rfl
    · show x.rest = decide (0 ≤ (if x.rest then (stAt ps (o.take k)).getD p 0 else -1))
      cases hr : x.rest
      · rfl
      · have := hat.plc.on p hp (by rw [u1]; exact hr)
        simp only [if_true]
        exact (decide_eq_true this).symm
  · rw [labs_idx hy, labs_idx hz, e1, e2]
end Hx
end Go.Proofs.YtppcnlkhdgmaiaaDoor
namespace Go.Proofs.YtppcnlkhdgmaiaaDoor
namespace Hx

theorem lastIx_pl {o : List Trn} {p : Nat} : ∀ {k : Nat}, (∃ j t, j < k ∧ o[j]? = some t ∧ t.pl = p) → ∃ t, o[lastIx o k p]? = some t ∧ t.pl = p ∧ lastIx o k p < k ∧ ∀ j t, lastIx o k p < j → j < k → o[j]? = some t → t.pl ≠ p
  | 0, h => by obtain ⟨j, _, h, _⟩ := h; omega
  | k + 1, h => by
    obtain ⟨j, t, hj, ht, hp⟩ := h
    cases hk : o[k]? with
    | none =>
      have hjk : j < k := by
        by_cases e : j = k
        · subst e; rw [hk] at ht; cases ht
        · omega
      obtain ⟨t', a1, a2, a3, a4⟩ := lastIx_pl (k := k) ⟨j, t, hjk, ht, hp⟩
      have e : lastIx o (k + 1) p = lastIx o k p := by rw [lastIx, hk]
      rw [e]
      refine ⟨t', a1, a2, by omega, fun i s h1 h2 h3 => ?_⟩
      by_cases e2 : i = k
      · subst e2; rw [hk] at h3; cases h3
      · exact a4 i s h1 (by omega) h3
    | some u =>
      have e := lastIx_step hk p
      by_cases hu : p = u.pl
      · rw [if_pos hu] at e
        rw [e]
        exact ⟨u, hk, hu.symm, by omega, fun i s h1 h2 _ => by omega⟩
      · rw [if_neg hu] at e
        rw [e]
        have hjk : j < k := by
          by_cases e2 : j = k
          · subst e2; rw [hk] at ht; cases ht; exact absurd hp.symm hu
          · omega
        obtain ⟨t', a1, a2, a3, a4⟩ := lastIx_pl (k := k) ⟨j, t, hjk, ht, hp⟩
        refine ⟨t', a1, a2, by omega, fun i s h1 h2 h3 => ?_⟩
        by_cases e2 : i = k
        · subst e2; rw [hk] at h3; cases h3; exact fun g => hu g.symm
        · exact a4 i s h1 (by omega) h3
theorem lim_keeps {J : Nat} {o : List Trn} {f : Nat → Int} (h : earlyF J o = some f) {i : Nat} (hi : i < o.length) {m : Lim} (hm : m ∈ limAt J o i) : f m.fr + m.more ≤ f m.to :=
  (early_least h).1.2 m (List.mem_flatMap.2 ⟨i, List.mem_range.2 hi, hm⟩)
/-- One step behind the other: the arm is free. -/
theorem Tm.arm {J K D ps o f} (h : Tm J K D ps o f) {k : Nat} {t u : Trn} (ht : (o.map (turnOfIdx ps))[k]? = some t) (hu : (o.map (turnOfIdx ps))[k + 1]? = some u) : f k + J + t.x.hi ≤ f (k + 1) := by
  have := lim_keeps h.early (i := k + 1) (getElem?_lt hu) (m := ⟨k, k + 1, (J : Int) + t.x.hi⟩) (by
    unfold limAt
    rw [hu]
    refine List.mem_append_left _ ?_
    unfold lim1
    rw [if_pos (by omega), Nat.add_sub_cancel, ht]
    simp)
  simp only at this
  omega
/-- The step ahead of a rest: the last one of its plate, in time for it. -/
theorem Tm.rest {J K D ps o f} (h : Tm J K D ps o f) {k : Nat} {r nx p q x} (hat : AtK K ps o k r nx p q x) (hr : x.rest = true) :
    ∃ a t, a < k ∧ (o.map (turnOfIdx ps))[a]? = some t ∧ t.pl = p ∧ (∀ j s, a < j → j < k → (o.map (turnOfIdx ps))[j]? = some s → s.pl ≠ p) ∧ f a + J + t.x.hi + x.mn ≤ f k ∧ f k + J ≤ f a + t.x.lo + x.mx := by
  have hord := order_is h.good.fine h.mem
  have hk : k < o.length := getElem?_lt hat.i
  obtain ⟨b, hb1, hb2⟩ := hord.prev k _ ⟨p, nx p, x⟩ hat.i (labs_at hat.hq hat.hx) hr
  have hn0 : 0 < nx p := by
    obtain ⟨y, l, e, hy⟩ := h.good.fine p q hat.hq
    rcases Nat.eq_zero_or_pos (nx p) with g | g
    · have hx := hat.hx
      rw [g, e] at hx
      simp at hx
      rw [hx] at hy
      rw [hy] at hr
      cases hr
    · exact g
  obtain ⟨y, hy⟩ : ∃ y, q[nx p - 1]? = some y := ⟨q[nx p - 1]'(by have := getElem?_lt hat.hx; omega), List.getElem?_eq_getElem _⟩
  have hb : b = offP ps p + (nx p - 1) := by omega
  have htb : (o.map (turnOfIdx ps))[lastIx (o.map (turnOfIdx ps)) k p]? = some (turnOfIdx ps b) := by rw [List.getElem?_map, hb1]; rfl
  have hpl : (turnOfIdx ps b).pl = p := by rw [hb, turn_pl hat.hq hy]
  have hk0 : 0 < k := by
    rcases Nat.eq_zero_or_pos k with g | g
    · exfalso
      subst g
      have e : lastIx (o.map (turnOfIdx ps)) 0 p = 0 := rfl
      have hb1' : o[0]? = some b := hb1
      rw [hat.i] at hb1'
      have := Option.some.inj hb1'
      omega
    · exact g
  have hlt := lastIx_lt (o.map (turnOfIdx ps)) p k hk0
  obtain ⟨t, a1, a2, a3, a4⟩ := lastIx_pl (o := o.map (turnOfIdx ps)) (p := p) (k := k) ⟨_, _, hlt, htb, hpl⟩
  have hlim : ∀ m ∈ lim2 J (o.map (turnOfIdx ps)) k ⟨x, p, nx p, begB q (nx p)⟩, f m.fr + m.more ≤ f m.to := fun m hm =>
    lim_keeps h.early (i := k) (by rw [List.length_map]; exact hk) (by
      unfold limAt
      rw [hat.trnk]
      exact List.mem_append_right _ hm)
  unfold lim2 at hlim
  simp only [hr, if_true, a1] at hlim
  have l1 := hlim _ (List.mem_cons_self ..)
  have l2 := hlim _ (List.mem_cons_of_mem _ (List.mem_cons_self ..))
  simp only at l1 l2
  exact ⟨_, t, a3, a1, a2, a4, by omega, by omega⟩
/-! ### Places that are full. -/
def outF (g : Nat → Bool) (y : TStp) : Nat → Bool := fun z => if (z : Int) = y.out then false else g z
def inF (g : Nat → Bool) (y : TStp) : Nat → Bool := fun z => if (z : Int) = y.inn then true else g z
def fullF (l : List TStp) : Nat → Bool := l.foldl (fun g y => inF (outF g y) y) (fun _ => false)
theorem fullF_at {l : List TStp} {k : Nat} {y : TStp} (h : l[k]? = some y) : fullF (l.take (k + 1)) = inF (outF (fullF (l.take k)) y) y := by
  unfold fullF
  rw [take_more h, List.foldl_append]
  rfl
theorem full_held {l : List TStp} (hr : Right l) : ∀ (k z : Nat), k ≤ l.length → fullF (l.take k) z = true → ∃ a, a < 4 ∧ (holdF (l.take k) a).1 = (z : Int)
  | 0, z, _, h => by rw [List.take_zero] at h; cases h
  | k + 1, z, hk, h => by
    have hy : l[k]? = some l[k] := List.getElem?_eq_getElem (by omega)
    have hown := right_own hr hy
    have hpl := (hr.ok _ (List.mem_of_getElem? hy)).pl
    rw [fullF_at hy] at h
    unfold inF at h
    by_cases e1 : (z : Int) = (l[k]).inn
    · exact ⟨_, hpl, by rw [hold_at hy, if_pos rfl, e1]⟩
    · rw [if_neg e1] at h
      unfold outF at h
      by_cases e2 : (z : Int) = (l[k]).out
      · rw [if_pos e2] at h; cases h
      · rw [if_neg e2] at h
        obtain ⟨a, ha, hz⟩ := full_held hr k z (by omega) h
        by_cases e3 : (l[k]).pl = a
        · exfalso
          rw [← e3, ← hown.2.1] at hz
          exact e2 hz.symm
        · exact ⟨a, ha, by rw [hold_at hy, if_neg e3]; exact hz⟩
/-- The place into which a plate goes is not full. -/
theorem not_full {l : List TStp} (hr : Right l) {k n : Nat} {y : TStp} (hy : l[k]? = some y) (hn : y.inn = (n : Int)) : outF (fullF (l.take k)) y n = false := by
  have hown := right_own hr hy
  unfold outF
  by_cases e : (n : Int) = y.out
  · rw [if_pos e]
  · rw [if_neg e]
    cases hf : fullF (l.take k) n with
    | false => rfl
    | true =>
      exfalso
      obtain ⟨a, ha, hz⟩ := full_held hr k n (by have := at_lt hy; omega) hf
      by_cases ea : a = y.pl
      · rw [ea, ← hown.2.1] at hz
        exact e hz.symm
      · have h1 := hr.right k (at_lt hy)
        unfold rightF at h1
        rw [hy] at h1
        simp only [Bool.and_eq_true, List.all_eq_true] at h1
        have h2 := h1.2 a (List.mem_range.2 ha)
        unfold clash at h2
        rw [hz, hn] at h2
        simp [ea] at h2
/-- A rest begins in a place below K. -/
theorem Tm.into {J K D ps o f} (_h : Tm J K D ps o f) {k : Nat} {r nx p q x} (hat : AtK K ps o k r nx p q x) (hb : begB q (nx p) = true) : lowF (sOut ⟨x, p, nx p, begB q (nx p)⟩ (stAt ps (o.take k))) < K :=
  low_places hat.so hat.plc hat.tat hat.rk hb
theorem out_rest {x : TStp} (h : TOk x) (g : 0 ≤ x.out) : x.rest = true := by
  cases hr : x.rest
  · have := (h.norest hr).2.2; omega
  · rfl
/-- The times hold whatever the clock and the steps do. -/
structure RobP (J K : Nat) (l : List TStp) : Prop where
  right : Right l
  arm : ∀ (k : Nat) (x y : TStp), l[k]? = some x → l[k + 1]? = some y → x.t + J + x.hi ≤ y.t
  rest : ∀ (k : Nat) (y : TStp), l[k]? = some y → 0 ≤ y.out → ∃ (a : Nat) (x : TStp), a < k ∧ l[a]? = some x ∧ x.pl = y.pl ∧ (∀ (j : Nat) (z : TStp), a < j → j < k → l[j]? = some z → z.pl ≠ y.pl) ∧ x.inn = y.out ∧ x.t + J + x.hi + y.mn ≤ y.t ∧ y.t + J ≤ x.t + x.lo + y.mx
  into : ∀ (k : Nat) (y : TStp), l[k]? = some y → 0 ≤ y.inn → y.inn < (K : Int)
theorem Tm.rob {J K D ps o f} (h : Tm J K D ps o f) : RobP J K (ttab ps o f) := by
  have hR := h.right
  have hlt : ∀ {k : Nat} {z : TStp}, (ttab ps o f)[k]? = some z → k < o.length := fun hz => by have := getElem?_lt hz; rw [ttab_len] at this; exact this
  refine ⟨hR, fun k x y hx hy => ?_, fun k y hy ho => ?_, fun k y hy hi => ?_⟩
  · obtain ⟨r1, nx1, p1, q1, x1, h1⟩ := h.at (hlt hx)
    obtain ⟨r2, nx2, p2, q2, x2, h2⟩ := h.at (hlt hy)
    have ha := h.arm h1.trnk h2.trnk
    have b1 := (h.f0 (hlt hx)).1
    have b2 := (h.f0 (hlt hy)).1
    rw [h1.row f] at hx
    rw [h2.row f] at hy
    cases hx
    cases hy
    show (f k).toNat + J + x1.hi ≤ (f (k + 1)).toNat
    simp only at ha
    omega
  · have hk := hlt hy
    obtain ⟨r, nx, p, q, x, hat⟩ := h.at hk
    have hrow := hat.row f
    have hy' := hy
    rw [hrow] at hy'
    cases hy'
    have hr : x.rest = true := out_rest (hR.ok _ (List.mem_of_getElem? hy)) ho
    obtain ⟨a, t, a1, a2, a3, a4, a5, a6⟩ := h.rest hat hr
    obtain ⟨r2, nx2, p2, q2, x2, h2⟩ := h.at (k := a) (by omega)
    rw [h2.trnk] at a2
    cases a2
    have b1 := (h.f0 (k := a) (by omega)).1
    have b2 := (h.f0 hk).1
    have hbt : ∀ (j : Nat) (z : TStp), a < j → j < k → (ttab ps o f)[j]? = some z → z.pl ≠ p := fun j z g1 g2 g3 => by
      obtain ⟨r3, nx3, p3, q3, x3, h3⟩ := h.at (hlt g3)
      have := a4 j _ g1 g2 h3.trnk
      rw [h3.row f] at g3
      cases g3
      exact this
    have hown := (right_own hR hy).2.1
    have e := hold_kept (l := ttab ps o f) (p := p) (i := a + 1) (k - (a + 1)) (fun j z g1 g2 g3 => hbt j z (by omega) (by omega) g3)
    rw [show a + 1 + (k - (a + 1)) = k by omega, hold_at (h2.row f), if_pos (show (tStp ⟨x2, p2, nx2 p2, begB q2 (nx2 p2)⟩ (f a) (stAt ps (o.take a))).pl = p from a3)] at e
    refine ⟨a, _, a1, h2.row f, a3, hbt, ?_, ?_, ?_⟩
    · have : (tStp ⟨x, p, nx p, begB q (nx p)⟩ (f k) (stAt ps (o.take k))).out = (holdF ((ttab ps o f).take k) p).1 := hown
      rw [this, e]
    · show (f a).toNat + J + x2.hi + (if x.rest then x.mn else 0) ≤ (f k).toNat
      rw [hr, if_pos rfl]
      simp only at a5
      omega
    · show (f k).toNat + J ≤ (f a).toNat + x2.lo + (if x.rest then x.mx else 0)
      rw [hr, if_pos rfl]
      simp only at a6
      omega
  · obtain ⟨r, nx, p, q, x, hat⟩ := h.at (hlt hy)
    rw [hat.row f] at hy
    cases hy
    have hi' : 0 ≤ (if begB q (nx p) then (lowF (sOut ⟨x, p, nx p, begB q (nx p)⟩ (stAt ps (o.take k))) : Int) else -1) := hi
    show (if begB q (nx p) then (lowF (sOut ⟨x, p, nx p, begB q (nx p)⟩ (stAt ps (o.take k))) : Int) else -1) < (K : Int)
    cases hb : begB q (nx p) with
    | false => rw [hb] at hi'; simp at hi'
    | true =>
      have := h.into hat hb
      rw [hb] at this
      simp only [if_true]
      omega
end Hx
end Go.Proofs.YtppcnlkhdgmaiaaDoor
namespace Go.Proofs.YtppcnlkhdgmaiaaDoor
namespace Hx

theorem tightI_cases (J : Nat) (L : List Lst) : (∃ i : Nat, i < L.length ∧ firstTight J L = some i ∧ tightI J L = (i : Int)) ∨ (firstTight J L = none ∧ tightI J L = -1) := by
  unfold tightI
  cases h : firstTight J L with
  | none => exact Or.inr ⟨rfl, rfl⟩
  | some i =>
    refine Or.inl ⟨i, ?_, rfl, rfl⟩
    unfold firstTight at h
    exact List.mem_range.1 (List.mem_of_find?_eq_some h)
theorem tight0 {J : Nat} {ps : List (List Stp)} (h : GoodS ps) : tightAt J (labs ps) 0 = false := by
  have hp : 0 < ps.length := List.length_pos_iff.2 h.pos
  have hq : ps[0]? = some ps[0] := List.getElem?_eq_getElem hp
  obtain ⟨x, r, e, hx⟩ := h.head _ (List.mem_of_getElem? hq)
  have := labs_at (p := 0) (n := 0) hq (by rw [e]; rfl : (ps[0])[0]? = some x)
  rw [show offP ps 0 + 0 = 0 from rfl] at this
  unfold tightAt
  rw [this]
  simp [hx]
/-- What Kept asks. -/
structure KeptP (J K D : Nat) (ps : List (List Stp)) (N : Nat) (A : List UInt8 × Bool × Int) : Prop where
  tight : ∀ i : Nat, tightI J (labs ps) = (i : Int) → ∃ y, (labs ps)[i]? = some y ∧ y.pl < 4 ∧ y.no < 10 ∧ A.1 = [UInt8.ofNat (97 + y.pl)] ++ Lib.itoa (y.no : Int) ∧ A.2.2 = 6
  loose : tightI J (labs ps) = -1 → (A.2.2 = 0 ∧ ∃ e o f, Told J K D ps A.1 e o f ∧ e ≤ (D : Int)) ∨ (A.1 = [] ∧ A.2.2 = 8) ∨ (A.1 = [] ∧ A.2.2 = 7 ∧ 0 < N)
theorem kept_is {J K D : Nat} {ps : List (List Stp)} (hs : GoodS ps) (hg : GoodP J K D ps) {N : Nat} (hN : N ≤ 1000) : KeptP J K D ps N (planS J K D ps (N : Int)) := by
  rw [planS_err (by omega) (by omega), Int.toNat_natCast]
  rcases tightI_cases J (labs ps) with ⟨i, hi, hf, ht⟩ | ⟨hf, ht⟩
  · rw [hf]
    simp only [Option.isSome_some, if_true]
    refine ⟨fun k hk => ?_, fun h => by rw [ht] at h; omega⟩
    rw [ht] at hk
    have hk : k = i := by omega
    subst hk
    obtain ⟨p, n, q, x, hq, hx, rfl⟩ := labs_inv hi
    have hat := labs_at hq hx
    have hks := hs.ks _ (List.mem_of_getElem? hat)
    have e1 : tightT J ps = ⟨x, p, n, restAfter (labs ps) (offP ps p + n)⟩ := by
      unfold tightT
      rw [hf]
      exact turn_pl hq hx
    refine ⟨_, hat, hks.pl, hks.no, ?_, rfl⟩
    rw [e1, ← dec_is, decF_one hks.no]
    rfl
  · rw [hf]
    simp only [Option.isSome_none, Bool.false_eq_true, if_false]
    refine ⟨fun k hk => by rw [ht] at hk; omega, fun _ => ?_⟩
    unfold planB
    cases hb : bestF J D ps (((ordersF K ps).take N).map (·.1)) with
    | some b =>
      have ho := told_of hg hb
      exact Or.inl ⟨rfl, _, _, _, ho, by rw [ho.en]; exact ho.tm.time⟩
    | none =>
      refine Or.inr ?_
      by_cases h0 : N = 0
      · left
        refine ⟨rfl, ?_⟩
        show (if moreF K ps N then (8 : Int) else 7) = 8
        unfold moreF
        rw [if_pos h0]; rfl
      · cases hm : moreF K ps N
        · right; exact ⟨rfl, rfl, by omega⟩
        · left; exact ⟨rfl, rfl⟩
end Hx
end Go.Proofs.YtppcnlkhdgmaiaaDoor
namespace Go.Proofs.YtppcnlkhdgmaiaaDoor
namespace Hx

/-- The plates' next numbers, with the plates one after the other. -/
def nxOf (ps : List (List Stp)) (p n : Nat) : Nat → Nat := fun a => if a < p then lenP ps a else if a = p then n else 0
def rstI (L : List Lst) (i : Nat) : Int := match L[i]? with | some y => (if y.x.rest then 1 else 0) | none => 0
theorem rstI_at {ps : List (List Stp)} {p n : Nat} {q : List Stp} {x : Stp} (hq : ps[p]? = some q) (hx : q[n]? = some x) : rstI (labs ps) (offP ps p + n) = if x.rest then 1 else 0 := by
  unfold rstI; rw [labs_at hq hx]
theorem rstI_after (L : List Lst) (i : Nat) : rstI L (i + 1) = if restAfter L i then 1 else 0 := by
  unfold rstI restAfter
  cases L[i + 1]? <;> simp
theorem fits_one {x : Stp} {p n : Nat} {b : Bool} : (if x.rest then (1 : Int) else 0) + moreR ⟨x, p, n, b⟩ = if b then 1 else 0 := by
  simp only [moreR]; omega
theorem range_end {K : Nat} {ps : List (List Stp)} (hf : Fine ps) (hK : 1 ≤ K) : ∀ (p : Nat), p < ps.length → ∀ (n : Nat), n ≤ lenP ps p → endS K (labs ps) (List.range (offP ps p + n)) 0 (fun _ => 0) = some (rstI (labs ps) (offP ps p + n), nxOf ps p n) := by
  have key : ∀ (p : Nat), p < ps.length → endS K (labs ps) (List.range (offP ps p + 0)) 0 (fun _ => 0) = some (rstI (labs ps) (offP ps p + 0), nxOf ps p 0) → ∀ (n : Nat), n ≤ lenP ps p → endS K (labs ps) (List.range (offP ps p + n)) 0 (fun _ => 0) = some (rstI (labs ps) (offP ps p + n), nxOf ps p n) := by
    intro p hp h0 n
    have hq : ps[p]? = some (ps.getD p []) := by rw [List.getD_eq_getElem?_getD, List.getElem?_eq_getElem hp]; rfl
    have hlen : lenP ps p = (ps.getD p []).length := rfl
    generalize ps.getD p [] = q at hq hlen
    induction n with
    | zero => exact fun _ => h0
    | succ n ih =>
      intro hn
      have hx : q[n]? = some (q[n]'(by omega)) := List.getElem?_eq_getElem (by omega)
      rw [← Nat.add_assoc, List.range_succ, endS_snoc, ih (by omega), Option.bind_some, fitStep_at hf hq hx]
      have e1 : nxOf ps p n p = n := by simp [nxOf]
      simp only
      rw [e1, if_pos rfl, rstI_at hq hx, fits_one, rstI_after, restAfter_at hf hq (getElem?_lt hx)]
      have e2 : (if begB q n then (1 : Int) else 0) ≤ (K : Int) := by split <;> omega
      rw [if_pos e2]
      have e3 : bump (nxOf ps p n) p = nxOf ps p (n + 1) := by
        funext a
        unfold bump nxOf
        by_cases ea : a = p
        · subst ea; simp
        · rw [if_neg ea]
          by_cases eb : a < p
          · rw [if_pos eb, if_pos eb]
          · rw [if_neg eb, if_neg eb, if_neg ea, if_neg ea]
      rw [e3]
  intro p
  induction p with
  | zero =>
    intro hp
    refine key 0 hp ?_
    have hq : ps[0]? = some (ps.getD 0 []) := by rw [List.getD_eq_getElem?_getD, List.getElem?_eq_getElem hp]; rfl
    obtain ⟨x, r, e, hx⟩ := hf _ _ hq
    rw [rstI_at (p := 0) (n := 0) hq (by rw [e]; rfl : (ps.getD 0 [])[0]? = some x), hx]
    have e2 : nxOf ps 0 0 = fun _ => 0 := by funext a; simp [nxOf]
    rw [e2]
    simp [offP, endS]
  | succ p ih =>
    intro hp
    refine key (p + 1) hp ?_
    have hq : ps[p]? = some (ps.getD p []) := by rw [List.getD_eq_getElem?_getD, List.getElem?_eq_getElem (by omega)]; rfl
    have h1 := ih (by omega) (lenP ps p) (Nat.le_refl _)
    have e1 : offP ps (p + 1) + 0 = offP ps p + lenP ps p := by rw [Nat.add_zero, offP_succ hq]; rfl
    have e2 : nxOf ps (p + 1) 0 = nxOf ps p (lenP ps p) := by
      funext a
      unfold nxOf
      by_cases ea : a = p
      · subst ea; simp
      · by_cases eb : a < p
        · rw [if_pos eb, if_pos (by omega)]
        · rw [if_neg eb, if_neg (by omega), if_neg ea]; split <;> rfl
    rw [e1, e2]
    exact h1
theorem first_next {K : Nat} {ps : List (List Stp)} (hK : 1 ≤ K) {p n : Nat} {q : List Stp} {x : Stp} (hq : ps[p]? = some q) (hx : q[n]? = some x) : ∃ ts, nxtF K ps (if x.rest then 1 else 0) (nxOf ps p n) = ⟨x, p, n, begB q n⟩ :: ts := by
  have hp := getElem?_lt hq
  obtain ⟨m, hm⟩ : ∃ m, ps.length = p + (m + 1) := ⟨ps.length - p - 1, by omega⟩
  unfold nxtF
  rw [hm, List.range_add, List.filterMap_append]
  have h1 : (List.range p).filterMap (nextAt K ps (if x.rest then 1 else 0) (nxOf ps p n)) = [] := by
    rw [List.filterMap_eq_nil_iff]
    intro a ha
    have ha := List.mem_range.1 ha
    have hqa : ps[a]? = some (ps.getD a []) := by rw [List.getD_eq_getElem?_getD, List.getElem?_eq_getElem (by omega)]; rfl
    have e : nxOf ps p n a = lenP ps a := by simp [nxOf, ha]
    have : turnAt ps a (nxOf ps p n a) = none := by
      unfold turnAt
      rw [hqa, e]
      simp [lenP]
    simp [nextAt, this]
  have h2 : nextAt K ps (if x.rest then 1 else 0) (nxOf ps p n) (p + 0) = some ⟨x, p, n, begB q n⟩ := by
    have e : nxOf ps p n p = n := by simp [nxOf]
    have ht : turnAt ps p n = some ⟨x, p, n, begB q n⟩ := by simp [turnAt, hq, hx]
    unfold nextAt
    rw [Nat.add_zero, e, ht]
    simp only
    rw [fits_one, if_pos (by split <;> omega)]
  rw [h1, List.nil_append, List.range_succ_eq_map, List.map_cons, List.filterMap_cons_some h2]
  exact ⟨_, rfl⟩
/-- The least order: the plates one after the other. -/
theorem allO_first {K : Nat} {ps : List (List Stp)} (hf : Fine ps) (hK : 1 ≤ K) : ∀ (d i : Nat), i + d = (labs ps).length → ∃ B, allO K (labs ps) d (List.range i) = List.range (labs ps).length :: B
  | 0, i, h => ⟨[], by rw [← h]; rfl⟩
  | d + 1, i, h => by
    obtain ⟨p, n, q, x, hq, hx, e⟩ := labs_inv (ps := ps) (i := i) (by omega)
    have hp := getElem?_lt hq
    have hn := getElem?_lt hx
    have he := range_end hf hK p hp n (by rw [lenP_eq hq]; omega)
    rw [rstI_at hq hx, ← e] at he
    obtain ⟨ts, hts⟩ := first_next hK hq hx
    rw [allO_next hf he, hts, List.flatMap_cons]
    have e2 : List.range i ++ [idxT ps ⟨x, p, n, begB q n⟩] = List.range (i + 1) := by
      rw [List.range_succ]
      show _ = List.range i ++ [i]
      rw [e]; rfl
    rw [e2]
    obtain ⟨B, hB⟩ := allO_first hf hK d (i + 1) (by omega)
    rw [hB]
    exact ⟨_, List.cons_append ..⟩
theorem allO_one {K : Nat} {ps : List (List Stp)} (hf : Fine ps) (h1 : ps.length = 1) : ∀ (d : Nat) (l : List Nat) (r : Int) (nx : Nat → Nat), endS K (labs ps) l 0 (fun _ => 0) = some (r, nx) → (allO K (labs ps) d l).length ≤ 1
  | 0, l, _, _, _ => by simp [allO]
  | d + 1, l, r, nx, he => by
    rw [allO_next hf he]
    unfold nxtF
    rw [h1]
    show (List.flatMap _ (List.filterMap _ [0])).length ≤ 1
    cases hn : nextAt K ps r nx 0 with
    | none => rw [List.filterMap_cons_none hn]; simp
    | some t =>
      rw [List.filterMap_cons_some hn]
      obtain ⟨_, _, _, _, hfit⟩ := nextAt_fit hf hn
      have := allO_one hf h1 d (l ++ [idxT ps t]) (r + moreR t) (bump nx 0) (by rw [endS_snoc, he, Option.bind_some, hfit])
      simpa using this
theorem allO_two {K : Nat} {ps : List (List Stp)} (hf : Fine ps) (hK : 1 ≤ K) (hK2 : ∀ q ∈ ps, ∀ x ∈ q, x.rest = true → 1 ≤ K) (h2 : 2 ≤ ps.length) {N : Nat} (hN : (labs ps).length = N + 1) : 2 ≤ (allO K (labs ps) (N + 1) []).length := by
  have he : endS K (labs ps) [] 0 (fun _ => 0) = some (0, fun _ => 0) := rfl
  have hnx : ∀ a, a < ps.length → ∃ t, nextAt K ps 0 (fun _ => 0) a = some t := by
    intro a ha
    have hq : ps[a]? = some (ps.getD a []) := by rw [List.getD_eq_getElem?_getD, List.getElem?_eq_getElem ha]; rfl
    obtain ⟨x, r, e, hx⟩ := hf _ _ hq
    have ht : turnAt ps a 0 = some ⟨x, a, 0, begB (x :: r) 0⟩ := by rw [e] at hq; simp only [turnAt, hq]; rfl
    refine ⟨⟨x, a, 0, begB (x :: r) 0⟩, ?_⟩
    unfold nextAt
    rw [ht]
    simp only
    rw [if_pos]
    simp only [moreR, hx]
    split <;> simp <;> omega
  obtain ⟨m, hm⟩ : ∃ m, ps.length = 2 + m := ⟨ps.length - 2, by omega⟩
  obtain ⟨t0, ht0⟩ := hnx 0 (by omega)
  obtain ⟨t1, ht1⟩ := hnx 1 (by omega)
  have hne : ∀ a t, nextAt K ps 0 (fun _ => 0) a = some t → 1 ≤ (allO K (labs ps) N ([] ++ [idxT ps t])).length := by
    intro a t ht
    obtain ⟨_, _, _, _, hfit⟩ := nextAt_fit hf ht
    exact List.length_pos_iff.2 (allO_ne hf hK2 N ([] ++ [idxT ps t]) _ _ (by rw [endS_snoc, he, Option.bind_some, hfit]) (by simp; omega))
  have h0 := hne 0 t0 ht0
  have h1 := hne 1 t1 ht1
  rw [allO_next hf he]
  have e : ∃ ts, nxtF K ps 0 (fun _ => 0) = t0 :: t1 :: ts := by
    unfold nxtF
    rw [hm, List.range_add, List.filterMap_append]
    show ∃ ts, List.filterMap _ [0, 1] ++ _ = _
    rw [List.filterMap_cons_some ht0, List.filterMap_cons_some ht1]
    exact ⟨_, rfl⟩
  obtain ⟨ts, hts⟩ := e
  rw [hts, List.flatMap_cons, List.flatMap_cons, List.length_append, List.length_append]
  omega

/-! ### Earliest times. -/
def rstM (y : Lst) : Nat := if y.x.rest then y.x.mn else 0
/-- When the first steps are surely over. -/
def preF (J : Nat) (L : List Lst) : Nat → Nat
  | 0 => 0
  | k + 1 => match L[k]? with | some y => preF J L k + rstM y + J + y.x.hi | none => preF J L k
def timF (J : Nat) (L : List Lst) (k : Nat) : Nat := preF J L k + match L[k]? with | some y => rstM y | none => 0
theorem preF_at {J : Nat} {L : List Lst} {k : Nat} {y : Lst} (h : L[k]? = some y) : preF J L (k + 1) = timF J L k + J + y.x.hi := by
  unfold timF
  rw [preF, h]
theorem timF_at {J : Nat} {L : List Lst} {k : Nat} {y : Lst} (h : L[k]? = some y) : timF J L k = preF J L k + rstM y := by
  unfold timF
  rw [h]
theorem labs_prev {ps : List (List Stp)} (hf : Fine ps) {k : Nat} {y : Lst} (h : (labs ps)[k]? = some y) (hr : y.x.rest = true) : ∃ k' a, k = k' + 1 ∧ (labs ps)[k']? = some a ∧ a.pl = y.pl ∧ a.no + 1 = y.no := by
  obtain ⟨p, n, q, x, hq, hx, e⟩ := labs_inv (getElem?_lt h)
  have h2 := h
  rw [e, labs_at hq hx] at h2
  cases h2
  obtain ⟨x0, r, eq, hx0⟩ := hf p q hq
  cases n with
  | zero => rw [eq] at hx; simp at hx; rw [hx] at hx0; rw [hx0] at hr; cases hr
  | succ n =>
    have hx1 : q[n]? = some (q[n]'(by have := getElem?_lt hx; omega)) := List.getElem?_eq_getElem _
    exact ⟨offP ps p + n, _, by omega, labs_at hq hx1, rfl, rfl⟩
theorem turnIdx_at {ps : List (List Stp)} {k : Nat} {y : Lst} (h : (labs ps)[k]? = some y) : turnOfIdx ps k = ⟨y.x, y.pl, y.no, restAfter (labs ps) k⟩ := by
  unfold turnOfIdx; rw [h]
/-- The steps of the least order, as turns. -/
def rngT (ps : List (List Stp)) : List Trn := (List.range (labs ps).length).map (turnOfIdx ps)
theorem rngT_len (ps : List (List Stp)) : (rngT ps).length = (labs ps).length := by simp [rngT]
theorem rngT_at {ps : List (List Stp)} {k : Nat} {y : Lst} (h : (labs ps)[k]? = some y) : (rngT ps)[k]? = some ⟨y.x, y.pl, y.no, restAfter (labs ps) k⟩ := by
  unfold rngT
  rw [List.getElem?_map, List.getElem?_range (getElem?_lt h), Option.map_some, turnIdx_at h]
theorem last_prev {ps : List (List Stp)} {k : Nat} {a : Lst} {p : Nat} (h : (labs ps)[k]? = some a) (hp : a.pl = p) : lastIx (rngT ps) (k + 1) p = k := by
  rw [lastIx_step (rngT_at h), if_pos hp.symm]
theorem least_first {J : Nat} {ps : List (List Stp)} (hf : Fine ps) (ht : ∀ i, i < (labs ps).length → tightAt J (labs ps) i = false) : LeastL (rngT ps).length (limsOf J (rngT ps)) (fun k => (timF J (labs ps) k : Int)) := by
  have hlim : ∀ i y, (labs ps)[i]? = some y → ∀ m ∈ limAt J (rngT ps) i, m ∈ limsOf J (rngT ps) := fun i y hy m hm => List.mem_flatMap.2 ⟨i, List.mem_range.2 (by rw [rngT_len]; exact getElem?_lt hy), hm⟩
  refine ⟨⟨fun i _ => by show (0 : Int) ≤ (timF J (labs ps) i : Int); omega, fun l hl => ?_⟩, fun s hs => ?_⟩
  · obtain ⟨i, hi, hm⟩ := List.mem_flatMap.1 hl
    have hi := List.mem_range.1 hi
    rw [rngT_len] at hi
    obtain ⟨y, hy⟩ : ∃ y, (labs ps)[i]? = some y := ⟨_, List.getElem?_eq_getElem hi⟩
    unfold limAt at hm
    rw [rngT_at hy] at hm
    rcases List.mem_append.1 hm with hm | hm
    · unfold lim1 at hm
      split at hm
      · rename_i h0
        obtain ⟨k, rfl⟩ : ∃ k, i = k + 1 := ⟨i - 1, by omega⟩
        obtain ⟨a, ha⟩ : ∃ a, (labs ps)[k]? = some a := ⟨_, List.getElem?_eq_getElem (by omega)⟩
        rw [Nat.add_sub_cancel, rngT_at ha] at hm
        rw [List.mem_singleton.1 hm]
        have e1 := preF_at (J := J) ha
        have e2 := timF_at (J := J) hy
        show (timF J (labs ps) k : Int) + ((J : Int) + (a.x.hi : Int)) ≤ (timF J (labs ps) (k + 1) : Int)
        omega
      · cases hm
    · unfold lim2 at hm
      simp only at hm
      split at hm
      · rename_i hr
        obtain ⟨k, a, rfl, ha, hp, _⟩ := labs_prev hf hy hr
        rw [last_prev ha hp, rngT_at ha] at hm
        have e1 := preF_at (J := J) ha
        have e2 := timF_at (J := J) hy
        have e3 : rstM y = y.x.mn := by unfold rstM; rw [hr]; rfl
        rcases List.mem_cons.1 hm with hm | hm
        · rw [hm]
          show (timF J (labs ps) k : Int) + ((J : Int) + (a.x.hi : Int) + (y.x.mn : Int)) ≤ (timF J (labs ps) (k + 1) : Int)
          omega
        · rw [List.mem_singleton.1 hm]
          have hti := ht (k + 1) hi
          rw [tightAt_prev hy ha] at hti
          unfold hopeB at hti
          rw [hr] at hti
          simp only [Bool.true_and, decide_eq_false_iff_not] at hti
          show (timF J (labs ps) (k + 1) : Int) + -((a.x.lo : Int) + (y.x.mx : Int) - (J : Int)) ≤ (timF J (labs ps) k : Int)
          omega
      · cases hm
  · intro i
    induction i with
    | zero =>
      intro hi
      have h0 := hs.1 0 hi
      rw [rngT_len] at hi
      obtain ⟨y, hy⟩ : ∃ y, (labs ps)[0]? = some y := ⟨_, List.getElem?_eq_getElem hi⟩
      have e2 := timF_at (J := J) hy
      have e3 : rstM y = 0 := by
        unfold rstM
        cases hr : y.x.rest
        · rfl
        · obtain ⟨k, _, e, _⟩ := labs_prev hf hy hr
          omega
      have e4 : preF J (labs ps) 0 = 0 := rfl
      show (timF J (labs ps) 0 : Int) ≤ s 0
      omega
    | succ k ih =>
      intro hi
      have ih := ih (by omega)
      rw [rngT_len] at hi
      obtain ⟨y, hy⟩ : ∃ y, (labs ps)[k + 1]? = some y := ⟨_, List.getElem?_eq_getElem hi⟩
      obtain ⟨a, ha⟩ : ∃ a, (labs ps)[k]? = some a := ⟨_, List.getElem?_eq_getElem (by omega)⟩
      have e1 := preF_at (J := J) ha
      have e2 := timF_at (J := J) hy
      have ih : (timF J (labs ps) k : Int) ≤ s k := ih
      show (timF J (labs ps) (k + 1) : Int) ≤ s (k + 1)
      cases hr : y.x.rest with
      | false =>
        have e3 : rstM y = 0 := by unfold rstM; rw [hr]; rfl
        have := hs.2 ⟨k, k + 1, (J : Int) + a.x.hi⟩ (hlim _ y hy _ (by
          unfold limAt
          rw [rngT_at hy]
          refine List.mem_append_left _ ?_
          unfold lim1
          rw [if_pos (by omega), Nat.add_sub_cancel, rngT_at ha]
          exact List.mem_singleton.2 rfl))
        simp only at this
        omega
      | true =>
        have e3 : rstM y = y.x.mn := by unfold rstM; rw [hr]; rfl
        obtain ⟨k', a', ek, ha', hp, _⟩ := labs_prev hf hy hr
        have ek : k' = k := by omega
        subst ek
        rw [ha] at ha'
        cases ha'
        have := hs.2 ⟨k', k' + 1, (J : Int) + a.x.hi + y.x.mn⟩ (hlim _ y hy _ (by
          unfold limAt
          rw [rngT_at hy]
          refine List.mem_append_right _ ?_
          unfold lim2
          simp only [hr, if_true]
          rw [last_prev ha hp, rngT_at ha]
          exact List.mem_cons_self ..))
        simp only at this
        omega
theorem early_first {J : Nat} {ps : List (List Stp)} (hf : Fine ps) (hpos : 0 < (labs ps).length) (ht : ∀ i, i < (labs ps).length → tightAt J (labs ps) i = false) : ∃ g, earlyF J (rngT ps) = some g ∧ ∀ i, i < (labs ps).length → g i = (timF J (labs ps) i : Int) := by
  have hl := least_first hf ht
  cases he : earlyF J (rngT ps) with
  | none =>
    exfalso
    unfold earlyF at he
    exact roundsF_none (limsOf_in J _) (by rw [rngT_len]; exact hpos) he _ hl
  | some g => exact ⟨g, rfl, fun i hi => (early_least he).unique hl i (by rw [rngT_len]; exact hi)⟩

/-! ### Places, and what is written. -/
def stF (ps : List (List Stp)) (k : Nat) : List Int := match (labs ps)[k]? with | some y => if y.x.rest then (st0 ps).set y.pl 0 else st0 ps | none => st0 ps
theorem rep_set {n p : Nat} : (List.replicate n (-1 : Int)).set p (-1) = List.replicate n (-1) := by
  apply List.ext_getElem?
  intro i
  rw [List.getElem?_set]
  split
  · rename_i h
    subst h
    rw [List.length_replicate, List.getElem?_replicate]
  · rfl
theorem low_rep (n : Nat) : lowF (List.replicate n (-1)) = 0 := by
  have h := lowF_spec (List.replicate n (-1 : Int))
  rcases Nat.eq_zero_or_pos (lowF (List.replicate n (-1))) with g | g
  · exact g
  · have := h.1 0 g
    rw [List.contains_iff_mem] at this
    have := List.eq_of_mem_replicate this
    omega
theorem sOut_first {ps : List (List Stp)} {k : Nat} {y : Lst} (h : (labs ps)[k]? = some y) (b : Bool) : sOut ⟨y.x, y.pl, y.no, b⟩ (stF ps k) = st0 ps := by
  unfold sOut stF
  rw [h]
  cases hr : y.x.rest
  · simp [hr]
  · simp only [hr, if_true]
    rw [List.set_set]
    exact rep_set
theorem stF_next {ps : List (List Stp)} (hf : Fine ps) {k : Nat} {y : Lst} (h : (labs ps)[k]? = some y) : sIn ⟨y.x, y.pl, y.no, restAfter (labs ps) k⟩ (st0 ps) = stF ps (k + 1) := by
  unfold sIn stF
  simp only
  cases h2 : (labs ps)[k + 1]? with
  | none =>
    have : restAfter (labs ps) k = false := by unfold restAfter; rw [h2]
    rw [this]; rfl
  | some z =>
    have e : restAfter (labs ps) k = z.x.rest := by unfold restAfter; rw [h2]
    rw [e]
    cases hr : z.x.rest
    · simp [hr]
    · obtain ⟨k', a, ek, ha, hp, _⟩ := labs_prev hf h2 hr
      have ek : k' = k := by omega
      subst ek
      rw [h] at ha
      cases ha
      simp only [hr, if_true]
      rw [show lowF (st0 ps) = 0 from low_rep _, hp]
      rfl
theorem st_first {ps : List (List Stp)} (hf : Fine ps) : ∀ k, k ≤ (labs ps).length → stAt ps (List.range k) = stF ps k
  | 0, _ => by
    show st0 ps = stF ps 0
    unfold stF
    cases h : (labs ps)[0]? with
    | none => rfl
    | some y =>
      cases hr : y.x.rest
      · simp [hr]
      · obtain ⟨k, _, e, _⟩ := labs_prev hf h hr
        omega
  | k + 1, hk => by
    obtain ⟨y, hy⟩ : ∃ y, (labs ps)[k]? = some y := ⟨_, List.getElem?_eq_getElem (by omega)⟩
    rw [List.range_succ, stAt_snoc, st_first hf k (by omega), turnIdx_at hy, sOut_first hy, stF_next hf hy]
/-- What is written of a step of the least order. -/
def stepB (J : Nat) (L : List Lst) (k : Nat) : List UInt8 :=
  match L[k]? with
  | some y => [59] ++ nmB y.pl y.no ++ [64] ++ Lib.itoa (timF J L k : Int) ++ [43] ++ bndB y.x.lo y.x.hi ++ (if y.x.rest then [60, 48, 58] ++ bndB y.x.mn y.x.mx else []) ++ (if restAfter L k then [62, 48] else [])
  | none => []
def firstB (J : Nat) (L : List Lst) (k : Nat) : List UInt8 := [106] ++ Lib.itoa (J : Int) ++ (List.range k).flatMap (stepB J L)
theorem itoa0 : Lib.itoa ((0 : Nat) : Int) = [48] := by rw [← dec_is, decF_one (by omega)]; rfl
theorem wAll_more (X : List (Trn × Int)) (t : Trn) (T : Int) (st : List Int) : wAll (X ++ [(t, T)]) st = wAll X st ++ (wHead t T ++ wOut t (wSt X st) ++ wIn t (sOut t (wSt X st))) := by
  induction X generalizing st with
  | nil => simp [wAll, wSt]
  | cons a X ih =>
    obtain ⟨t', T'⟩ := a
    show wHead t' T' ++ wOut t' st ++ wIn t' (sOut t' st) ++ wAll (X ++ [(t, T)]) _ = wHead t' T' ++ wOut t' st ++ wIn t' (sOut t' st) ++ wAll X _ ++ _
    rw [ih]
    simp [wSt]
theorem pairs_takek (l : List Trn) (f : Nat → Int) {k : Nat} {t : Trn} (h : l[k]? = some t) : (pairs l f).take (k + 1) = (pairs l f).take k ++ [(t, f k)] := by
  rw [List.take_add_one]
  unfold pairs
  rw [List.getElem?_mapIdx, h]; rfl
theorem wAll_first {J : Nat} {ps : List (List Stp)} (hf : Fine ps) {g : Nat → Int} (hg : ∀ i, i < (labs ps).length → g i = (timF J (labs ps) i : Int)) : ∀ k, k ≤ (labs ps).length → wAll ((pairs (rngT ps) g).take k) (st0 ps) = (List.range k).flatMap (stepB J (labs ps))
  | 0, _ => by simp [wAll]
  | k + 1, hk => by
    obtain ⟨y, hy⟩ : ∃ y, (labs ps)[k]? = some y := ⟨_, List.getElem?_eq_getElem (by omega)⟩
    have hst : wSt ((pairs (rngT ps) g).take k) (st0 ps) = stF ps k := by
      rw [wSt_T, pairs_take, ← st_first hf k (by omega)]
      unfold stAt rngT
      rw [← List.map_take, List.take_range, Nat.min_eq_left (by omega)]
    rw [pairs_takek _ g (rngT_at hy), wAll_more, wAll_first hf hg k (by omega), range_flat, hst, sOut_first hy]
    congr 1
    unfold stepB
    rw [hy, hg k (by omega)]
    simp only
    unfold wHead wOut wIn
    simp only
    rw [show lowF (st0 ps) = 0 from low_rep _, itoa0]
    have e1 : (nameB y.pl y.no).data.toList = nmB y.pl y.no := rfl
    rw [e1]
    congr 1
    congr 1
    cases hr : y.x.rest
    · rfl
    · have e2 : (stF ps k).getD y.pl 0 = ((0 : Nat) : Int) := by
        unfold stF
        rw [hy]
        simp only [hr, if_true]
        rw [List.getD_eq_getElem?_getD, List.getElem?_set]
        simp
        split <;> rfl
      simp only [if_true]
      rw [e2, itoa0]
      rfl
theorem write_first {J : Nat} {ps : List (List Stp)} (hf : Fine ps) {g : Nat → Int} (hg : ∀ i, i < (labs ps).length → g i = (timF J (labs ps) i : Int)) : writeF J ps.length (pairs (rngT ps) g) = firstB J (labs ps) (labs ps).length := by
  have h := wAll_first hf hg _ (Nat.le_refl _)
  rw [List.take_of_length_le (by rw [pairs_len, rngT_len]; exact Nat.le_refl _)] at h
  unfold writeF firstB
  rw [← h]
  rfl
theorem labs_lastpl {ps : List (List Stp)} (hf : Fine ps) (_hp : 0 < ps.length) {y : Lst} (hy : (labs ps)[(labs ps).length - 1]? = some y) : (y.pl : Int) = 0 ↔ ps.length = 1 := by
  obtain ⟨p, n, q, x, hq, hx, e⟩ := labs_inv (getElem?_lt hy)
  rw [e, labs_at hq hx] at hy
  cases hy
  have h1 := getElem?_lt hq
  have h2 := getElem?_lt hx
  have h3 : offP ps (p + 1) = offP ps p + q.length := offP_succ hq
  have h4 := getElem?_lt (labs_at hq hx)
  show (p : Int) = 0 ↔ _
  have h5 : p + 1 = ps.length := by
    apply Classical.byContradiction
    intro g
    have hq2 : ps[p + 1]? = some (ps.getD (p + 1) []) := by rw [List.getD_eq_getElem?_getD, List.getElem?_eq_getElem (by omega)]; rfl
    obtain ⟨x2, r2, e2, _⟩ := hf _ _ hq2
    have h6 := getElem?_lt (labs_at hq2 (by rw [e2]; rfl : (ps.getD (p + 1) [])[0]? = some x2))
    omega
  omega
/-- What First asks. -/
structure FirstP (J D : Nat) (ps : List (List Stp)) (A : List UInt8 × Bool × Int) : Prop where
  ok : preF J (labs ps) (labs ps).length ≤ D → A = (firstB J (labs ps) (labs ps).length, decide (ps.length = 1), 0)
  one : ¬ preF J (labs ps) (labs ps).length ≤ D → ps.length = 1 → A.1 = [] ∧ A.2.2 = 7
  more : ¬ preF J (labs ps) (labs ps).length ≤ D → ps.length ≠ 1 → A.1 = [] ∧ A.2.2 = 8
theorem first_is {J K D : Nat} {ps : List (List Stp)} (hg : GoodP J K D ps) (hK : 1 ≤ K) (ht : tightI J (labs ps) = -1) : FirstP J D ps (planS J K D ps 1) := by
  have hf := hg.fine
  have hpos := labs_some hg
  have hK2 : ∀ q ∈ ps, ∀ x ∈ q, x.rest = true → 1 ≤ K := fun _ _ _ _ _ => hK
  have hnt : firstTight J (labs ps) = none := by
    rcases tightI_cases J (labs ps) with ⟨i, _, _, h⟩ | ⟨h, _⟩
    · rw [ht] at h; omega
    · exact h
  have hall : ∀ i, i < (labs ps).length → tightAt J (labs ps) i = false := by
    intro i hi
    unfold firstTight at hnt
    rw [List.find?_eq_none] at hnt
    have := hnt i (List.mem_range.2 hi)
    simpa using this
  obtain ⟨g, hge, hgt⟩ := early_first hf hpos hall
  obtain ⟨B, hB⟩ := allO_first hf hK (labs ps).length 0 (by omega)
  have hB : allO K (labs ps) (labs ps).length [] = List.range (labs ps).length :: B := hB
  have htk : ((ordersF K ps).take 1).map (·.1) = [List.range (labs ps).length] := by rw [ordersF_fst, hB]; rfl
  have hmore : moreF K ps 1 = decide (ps.length ≠ 1) := by
    rw [more_is hg]
    by_cases h1 : ps.length = 1
    · have := allO_one (K := K) hf h1 (labs ps).length [] 0 (fun _ => 0) rfl
      rw [decide_eq_false (by omega), decide_eq_false (by simp [h1])]
    · have hp := hg.pos
      obtain ⟨N, hN⟩ : ∃ N, (labs ps).length = N + 1 := ⟨(labs ps).length - 1, by omega⟩
      have := allO_two hf hK hK2 (by omega) hN
      rw [decide_eq_true h1, hN, decide_eq_true (by omega)]
  have hend : endT J ((List.range (labs ps).length).map (turnOfIdx ps)) g = (preF J (labs ps) (labs ps).length : Int) := by
    obtain ⟨N, hN⟩ : ∃ N, (labs ps).length = N + 1 := ⟨(labs ps).length - 1, by omega⟩
    obtain ⟨y, hy⟩ : ∃ y, (labs ps)[N]? = some y := ⟨_, List.getElem?_eq_getElem (by omega)⟩
    have e1 := preF_at (J := J) hy
    have e2 := hgt N (by omega)
    show endT J (rngT ps) g = _
    unfold endT
    rw [rngT_len, hN, Nat.add_sub_cancel, rngT_at hy]
    simp only
    omega
  rw [planS_err (by omega) (by omega), hnt]
  simp only [Option.isSome_none, Bool.false_eq_true, if_false]
  have e1 : (1 : Int).toNat = 1 := rfl
  rw [e1]
  unfold planB
  rw [htk, hmore]
  have hcand : candF J D ps (List.range (labs ps).length) = if (preF J (labs ps) (labs ps).length : Int) ≤ (D : Int) then some (g, (preF J (labs ps) (labs ps).length : Int)) else none := by
    have hge' : earlyF J ((List.range (labs ps).length).map (turnOfIdx ps)) = some g := hge
    unfold candF
    rw [hge']
    simp only
    rw [hend]
  have hbest : bestF J D ps [List.range (labs ps).length] = if (preF J (labs ps) (labs ps).length : Int) ≤ (D : Int) then some ⟨List.range (labs ps).length, g, (preF J (labs ps) (labs ps).length : Int)⟩ else none := by
    unfold bestF
    rw [List.foldl_cons, List.foldl_nil]
    unfold betterF
    rw [hcand]
    by_cases h : (preF J (labs ps) (labs ps).length : Int) ≤ (D : Int)
    · rw [if_pos h, if_pos h]
    · rw [if_neg h, if_neg h]
  rw [hbest]
  refine ⟨fun h => ?_, fun h h1 => ?_, fun h h1 => ?_⟩
  · rw [if_pos (by omega)]
    simp only
    have e2 : writeF J ps.length (pairs ((List.range (labs ps).length).map (turnOfIdx ps)) g) = firstB J (labs ps) (labs ps).length := write_first hf hgt
    rw [e2]
    have e3 : (!decide (ps.length ≠ 1)) = decide (ps.length = 1) := by by_cases h1 : ps.length = 1 <;> simp [h1]
    rw [e3]
  · rw [if_neg (by omega)]
    simp only
    simp [h1]
  · rw [if_neg (by omega)]
    simp only
    simp [h1]
end Hx
end Go.Proofs.YtppcnlkhdgmaiaaDoor
