/- What the document's Plan answers. -/
import Derived.Test.YtppcnlkhdgmaiabGreatDoorCWrA
import Derived.Test.YtppcnlkhdgmaiabGreatDoorCRpI
import Derived.Test.YtppcnlkhdgmaiabGreatDoorCRfF
namespace Go.Proofs.YtppcnlkhdgmaiabGreatDoor
open Go.RowKit

theorem Hx.check_good {s : ByteArray} (h : (Hx.checkF s).1 = 0) : (Hx.protF s).1.bad = false := by
  unfold checkF at h
  split at h
  · cases h
  · split at h
    · cases h
    · rename_i g; simpa using g
theorem Hx.tight_zero {J : Nat} {ps : List (List Hx.Stp)} (hf : Hx.Fine ps) (hp : 0 < ps.length) : Hx.tightAt J (Hx.labs ps) 0 = false := by
  have hq : ps[0]? = some (ps.getD 0 []) := by rw [List.getD_eq_getElem?_getD, List.getElem?_eq_getElem hp]; rfl
  obtain ⟨x, r, e, hx⟩ := hf _ _ hq
  have hx0 : (ps.getD 0 [])[0]? = some x := by rw [e]; rfl
  have := Hx.tightAt_no (J := J) hq hx0 hx
  simpa [Hx.offP] using this
/-- The best so far, by its place. -/
def BSt (J D : Nat) (ps : List (List Hx.Stp)) (A : List (List Nat)) (k : Nat) (bi en : Int) : Prop :=
  match Hx.bestF J D ps (A.take k) with
  | none => bi = -1 ∧ en = 0
  | some B => ∃ b : Nat, b < k ∧ bi = (b : Int) ∧ A[b]? = some B.o ∧ en = B.e
theorem BSt.start (J D : Nat) (ps : List (List Hx.Stp)) (A : List (List Nat)) : BSt J D ps A 0 (-1) 0 := ⟨rfl, rfl⟩
theorem take_snoc {α : Type} {A : List α} {k : Nat} {o : α} (h : A[k]? = some o) : A.take (k + 1) = A.take k ++ [o] := by rw [List.take_add_one, h]; rfl
theorem BSt.none {J D ps A k bi en o} (h : BSt J D ps A k bi en) (ho : A[k]? = some o) (hc : Hx.candF J D ps o = none) : BSt J D ps A (k + 1) bi en := by
  unfold BSt at h ⊢
  rw [take_snoc ho, Hx.bestF_snoc, Hx.betterF, hc]
  simp only
  split at h
  · exact h
  · obtain ⟨b, h1, h2⟩ := h
    exact ⟨b, by omega, h2⟩
theorem BSt.better {J D ps A k bi en o f e} (h : BSt J D ps A k bi en) (ho : A[k]? = some o) (hc : Hx.candF J D ps o = some (f, e)) (hb : bi < 0 ∨ e < en) : BSt J D ps A (k + 1) (k : Int) e := by
  unfold BSt at h ⊢
  rw [take_snoc ho, Hx.bestF_snoc, Hx.betterF, hc]
  simp only
  split at h
  · rename_i g
    rw [g]
    exact ⟨k, by omega, rfl, ho, rfl⟩
  · rename_i B g
    obtain ⟨b, h1, rfl, h3, rfl⟩ := h
    rw [g]
    simp only
    rw [if_pos (by omega)]
    exact ⟨k, by omega, rfl, ho, rfl⟩
theorem BSt.worse {J D ps A k bi en o f e} (h : BSt J D ps A k bi en) (ho : A[k]? = some o) (hc : Hx.candF J D ps o = some (f, e)) (hb : ¬ bi < 0) (he : ¬ e < en) : BSt J D ps A (k + 1) bi en := by
  unfold BSt at h ⊢
  rw [take_snoc ho, Hx.bestF_snoc, Hx.betterF, hc]
  simp only
  split at h
  · omega
  · rename_i B g
    obtain ⟨b, h1, rfl, h3, rfl⟩ := h
    rw [g]
    simp only
    rw [if_neg (by omega)]
    exact ⟨b, by omega, rfl, h3, rfl⟩
/-- An operation of a region that is taken first, its slot named. -/
theorem take_at {P : Program} {md : Region.Mode} {ops : Array Oper} {Q : Exit → Act → World → Prop} {S : World → Prop} {i : Nat} {d : Tmp} {oi : Oper} {v : Value} {fuel : Nat} {listed : Array Bool} {a : Act} {w : World} (hi : ops[i]? = some oi) (hd : oi.dst = some d)
    (hs : Region.noSelect ops = true) (hf : Region.free md ops listed i = true) (hr : (Region.ready md ops listed).contains i = true)
    (hQ : ∀ c a w, Q (.panic c) (a.put oi.dst v) w → Q (.panic c) a w) (hy : YieldsIf P ops S oi v a) (hS : S w)
    (h : wpAnyH P md ops Q S fuel (listed.setIfInBounds i true) (a.put (some d) v) w) : wpAnyH P md ops Q S (fuel + 1) listed a w :=
  wpAnyH_take hi hs hf hr hQ hy hS (by rw [hd]; exact h)

theorem nm_name (pl no : Nat) : (Hx.nameB pl no).data.toList = Hx.nmB pl no := rfl

set_option maxRecDepth 100000 in
set_option maxHeartbeats 8000000 in
theorem refplan_any (s : ByteArray) (N : Int) (w : World) (hs : s.size ≤ maxLen) :
    Calls Tryz.prog 10 #[.string s, .int .i64 N] w fun e w' => e = .returned (.tuple #[.string ⟨(Hx.planF s N).1.toArray⟩, .bool (Hx.planF s N).2.1, .int .i64 (Hx.planF s N).2.2]) ∧ Below w.heap.size w w' := by
  obtain ⟨FIN, hFIN⟩ : ∃ FIN, FIN = Hx.planF s N := ⟨_, rfl⟩
  rw [← hFIN]
  have HCK := hide (refcheck_any s w hs)
  obtain ⟨ce, hce⟩ : ∃ ce, ce = (Hx.checkF s).1 := ⟨_, rfl⟩
  obtain ⟨cp, hcp⟩ : ∃ cp, cp = (Hx.checkF s).2 := ⟨_, rfl⟩
  rw [← hce, ← hcp] at HCK
  go_enter Tryz.func10, Tryz.ntmps10
  go_wp2_with fail
  refine (unhide HCK).mono ?_
  rintro e w1 ⟨rfl, hb1⟩
  have HB1 := hide hb1
  clear hb1 HCK hcp
  by_cases hc : ce = 0
  · subst hc
    have hck := hce.symm
    obtain ⟨hs120, hgp⟩ := Hx.good_prot hck
    have hgood := Hx.check_good hck
    have hF1 : FIN = if N < 0 ∨ 1000 < N then (([], false, 5) : List UInt8 × Bool × Int)
        else if (Hx.firstTight (Hx.headJ s).1 (Hx.labs (Hx.protF s).2)).isSome then ((Hx.nameB (Hx.tightT (Hx.headJ s).1 (Hx.protF s).2).pl (Hx.tightT (Hx.headJ s).1 (Hx.protF s).2).no).data.toList, false, 6)
        else Hx.planB (Hx.headJ s).1 (Hx.headK s).1 (Hx.headD s).1 (Hx.protF s).2 N.toNat := by
      rw [hFIN, Hx.planF, if_neg (by rw [hck]; simp)]
    have HF1 := hide hF1
    clear hF1 hFIN hce hs
    by_cases hN0 : N < 0
    · have HF : Hid (FIN = ([], false, 5)) := by show _ = _; rw [unhide HF1, if_pos (Or.inl hN0)]
      clear HF1
      go_wp2_with fail
      go_returns
      exact ⟨by rw [unhide HF]; rfl, unhide HB1⟩
    · by_cases hN1 : 1000 < N
      · have HF : Hid (FIN = ([], false, 5)) := by show _ = _; rw [unhide HF1, if_pos (Or.inr hN1)]
        clear HF1
        go_wp2_with fail
        go_returns
        exact ⟨by rw [unhide HF]; rfl, unhide HB1⟩
      · have HPR := hide (protocol_any s w1 hs120)
        go_wp2_with fail
        refine (unhide HPR).mono ?_
        rintro e w2 ⟨hb2, ⟨hbad, _⟩ | ⟨_, v, rfl, hrow, hpl1, hpl2⟩⟩
        · rw [hgood] at hbad; cases hbad
        · obtain ⟨J, hJ⟩ : ∃ J, J = (Hx.headJ s).1 := ⟨_, rfl⟩
          obtain ⟨K, hK⟩ : ∃ K, K = (Hx.headK s).1 := ⟨_, rfl⟩
          obtain ⟨D, hD⟩ : ∃ D, D = (Hx.headD s).1 := ⟨_, rfl⟩
          obtain ⟨ps, hps⟩ : ∃ ps, ps = (Hx.protF s).2 := ⟨_, rfl⟩
          rw [← hJ, ← hK, ← hD, ← hps] at hgp HF1
          rw [← hJ, ← hK, ← hD, ← hps]
          rw [← hps] at hrow hpl1 hpl2
          have HF2 : Hid (FIN = if (Hx.firstTight J (Hx.labs ps)).isSome then (((Hx.nameB (Hx.tightT J ps).pl (Hx.tightT J ps).no).data.toList, false, 6) : List UInt8 × Bool × Int) else Hx.planB J K D ps N.toNat) := by
            show _ = _
            rw [unhide HF1, if_neg (by omega)]
          obtain ⟨pl, hpl⟩ : ∃ pl, pl = ps.length := ⟨_, rfl⟩
          rw [← hpl]
          have hLp : 0 < (Hx.labs ps).length := (hgp.goodC (.slice none 0 0) ⟨0, 0, 0, 0, 0, 0, 0⟩).some
          obtain ⟨L, hL⟩ : ∃ L, L = Hx.labs ps := ⟨_, rfl⟩
          obtain ⟨n, hn⟩ : ∃ n, n = L.length := ⟨_, rfl⟩
          rw [← hL] at hrow HF2 hLp hpl2
          obtain ⟨gs, cap, rfl, _, hgs⟩ := own_pos hrow hLp
          have hLn9 : L.length ≤ 9 := by rw [hL]; exact hgp.all
          have hSM : Hx.SmL L := by rw [hL]; exact Hx.labs_small hgp.small
          have ht0 : Hx.tightAt J L 0 = false := by rw [hL]; exact Hx.tight_zero hgp.fine hgp.pos
          have HB3 := hide (belA (.cells #[.int .i64 (J : Int), .int .i64 (K : Int), .int .i64 (D : Int), .slice (some ⟨gs, 0, none⟩) L.length cap, .int .i64 (pl : Int)] 49) (belB hb2 (unhide HB1)))
          have HROW := hide (own_below (own_mono hrow (Nat.zero_le _)) ((Below.refl w2.heap.size w2).alloc (Nat.le_refl _) (.cells #[.int .i64 (J : Int), .int .i64 (K : Int), .int .i64 (D : Int), .slice (some ⟨gs, 0, none⟩) L.length cap, .int .i64 (pl : Int)] 49)))
          have HPB := hide (bN #[.int .i64 (J : Int), .int .i64 (K : Int), .int .i64 (D : Int), .slice (some ⟨gs, 0, none⟩) L.length cap, .int .i64 (pl : Int)] 49 (w := w2) rfl)
          have HG := hide hgp
          have HL := hide hL
          have HSM := hide hSM
          have HT0 := hide ht0
          have hJ10 := hgp.j
          clear hb2 hrow hgp HF1 hJ hK hD hps hL hSM ht0 HPR HB1 hgood hs120 hck hpl
          go_upto_region 7 with fail
          obtain ⟨pb, hpb⟩ : ∃ pb, pb = w2.heap.size := ⟨_, rfl⟩
          rw [← hpb] at HPB ⊢
          clear hpb
          generalize w2.alloc (.cells #[.int .i64 (J : Int), .int .i64 (K : Int), .int .i64 (D : Int), .slice (some ⟨gs, 0, none⟩) L.length cap, .int .i64 (pl : Int)] 49) = W at *
          rw [← hn] at HPB hLp hLn9 ⊢
          have HLN := hide hn
          clear hn
          have hgsW : gs < W.heap.size := ((unhide HROW).lt gs rfl).2
          have HTS : Hid (∀ i, i < 1 → Hx.tightAt J L i = false) := fun i hi => by rw [show i = 0 by omega]; exact unhide HT0
          go_wp2_with fail
          go_loopg [11] n (fun gk j wr => ∃ q kk : Nat, kk = q + 1 ∧ kk ≤ n ∧ gk = n - q ∧ j = .int .i64 (kk : Int) ∧ Hid (∀ i, i < kk → Hx.tightAt J L i = false) ∧ Below W.heap.size W wr)
          case atStart => exact ⟨0, 1, rfl, by omega, rfl, rfl, HTS, Below.refl _ _⟩
          case round =>
            obtain ⟨q, kk, hkq, hkn, rfl, rfl, HTI, hbe⟩ := hrel
            have HKQ := hide hkq
            have s3 : wr.cell? ⟨pb, 3, none⟩ = some (.slice (some ⟨gs, 0, none⟩) n cap) := cBel hbe (blk_cell (unhide HPB) 3)
            by_cases hlt : kk < n
            · have hkI : (kk : Int) < (n : Int) := by omega
              have hk0 : (0 : Int) ≤ (kk : Int) := by omega
              have hqI : (q : Int) < (n : Int) := by omega
              have hq0 : (0 : Int) ≤ (q : Int) := by omega
              have hkw : IntKind.i64.wrap ((kk : Int) - 1) = (q : Int) := by
                rw [show (kk : Int) - 1 = (q : Int) by omega]
                exact IntWalk.i64_in _ ⟨by omega, by omega⟩
              obtain ⟨x, hx⟩ : ∃ x, L[kk]? = some x := ⟨_, List.getElem?_eq_getElem (by rw [← unhide HLN]; exact hlt)⟩
              obtain ⟨a, ha⟩ : ∃ a, L[q]? = some a := ⟨_, List.getElem?_eq_getElem (by rw [← unhide HLN]; omega)⟩
              obtain ⟨sx1, sx2, sx3, sx4⟩ := unhide HSM x (List.mem_of_getElem? hx)
              obtain ⟨sa1, sa2, sa3, sa4⟩ := unhide HSM a (List.mem_of_getElem? ha)
              have HTA : Hid (Hx.tightAt J L kk = (x.x.rest && decide ((a.x.lo : Int) + x.x.mx - J < (J : Int) + a.x.hi + x.x.mn))) := by
                show _ = _
                have e : kk - 1 = q := by omega
                unfold Hx.tightAt Hx.hopeB
                rw [hx, e, ha]
                simp only
                cases x.x.rest <;> rfl
              have hrows := unhide HROW
              have cx : ∀ j, j < 10 → wr.cell? ⟨gs, kk * 10 + j, none⟩ = (lstCells x)[j]? := fun j hj => by
                rw [hbe.cell (p := ⟨gs, kk * 10 + j, none⟩) hgsW, own_lst hrows kk x hx j hj]
              have HCA : Hid (∀ w', Below W.heap.size W w' → w'.cell? ⟨gs, q * 10 + 2, none⟩ = some (.int .i64 (a.x.lo : Int)) ∧ w'.cell? ⟨gs, q * 10 + 3, none⟩ = some (.int .i64 (a.x.hi : Int))) := fun w' hb => by
                refine ⟨?_, ?_⟩
                · rw [hb.cell (p := ⟨gs, q * 10 + 2, none⟩) hgsW, own_lst hrows q a ha 2 (by omega)]; rfl
                · rw [hb.cell (p := ⟨gs, q * 10 + 3, none⟩) hgsW, own_lst hrows q a ha 3 (by omega)]; rfl
              have x0 : wr.cell? ⟨gs, kk * 10, none⟩ = some (.int .i64 (x.pl : Int)) := cx 0 (by omega)
              have x1 : wr.cell? ⟨gs, kk * 10 + 1, none⟩ = some (.int .i64 (x.no : Int)) := cx 1 (by omega)
              have x2 : wr.cell? ⟨gs, kk * 10 + 2, none⟩ = some (.int .i64 (x.x.lo : Int)) := cx 2 (by omega)
              have x3 : wr.cell? ⟨gs, kk * 10 + 3, none⟩ = some (.int .i64 (x.x.hi : Int)) := cx 3 (by omega)
              have x4 : wr.cell? ⟨gs, kk * 10 + 4, none⟩ = some (.bool x.x.rest) := cx 4 (by omega)
              have x5 : wr.cell? ⟨gs, kk * 10 + 5, none⟩ = some (.int .i64 (x.x.mn : Int)) := cx 5 (by omega)
              have x6 : wr.cell? ⟨gs, kk * 10 + 6, none⟩ = some (.int .i64 (x.x.mx : Int)) := cx 6 (by omega)
              have x7 : wr.cell? ⟨gs, kk * 10 + 7, none⟩ = some (.int .i64 0) := cx 7 (by omega)
              have x8 : wr.cell? ⟨gs, kk * 10 + 8, none⟩ = some (.int .i64 0) := cx 8 (by omega)
              have x9 : wr.cell? ⟨gs, kk * 10 + 9, none⟩ = some (.int .i64 0) := cx 9 (by omega)
              have HX := hide hx
              have HGK : Hid (n - (q + 1) < n - q) := by show _ < _; omega
              obtain ⟨xb, hxb⟩ : ∃ xb, xb = wr.heap.size := ⟨_, rfl⟩
              have HXB := hide (bN #[.int .i64 (x.pl : Int), .int .i64 (x.no : Int), .int .i64 (x.x.lo : Int), .int .i64 (x.x.hi : Int), .bool x.x.rest, .int .i64 (x.x.mn : Int), .int .i64 (x.x.mx : Int), .int .i64 0, .int .i64 0, .int .i64 0] 53 (w := wr) hxb)
              have HB5 := hide (belA (.cells #[.int .i64 (x.pl : Int), .int .i64 (x.no : Int), .int .i64 (x.x.lo : Int), .int .i64 (x.x.hi : Int), .bool x.x.rest, .int .i64 (x.x.mn : Int), .int .i64 (x.x.mx : Int), .int .i64 0, .int .i64 0, .int .i64 0] 53) hbe)
              clear hbe hx ha cx hrows hkq
              go_upto_region 11 with fail
              rw [← hxb]
              clear hxb x0 x1 x2 x3 x4 x5 x6 x7 x8 x9 s3
              generalize wr.alloc (.cells #[.int .i64 (x.pl : Int), .int .i64 (x.no : Int), .int .i64 (x.x.lo : Int), .int .i64 (x.x.hi : Int), .bool x.x.rest, .int .i64 (x.x.mn : Int), .int .i64 (x.x.mx : Int), .int .i64 0, .int .i64 0, .int .i64 0] 53) = w5 at *
              have y0 : w5.cell? ⟨xb, 0, none⟩ = some (.int .i64 (x.pl : Int)) := blk_cell (unhide HXB) 0
              have y1 : w5.cell? ⟨xb, 1, none⟩ = some (.int .i64 (x.no : Int)) := blk_cell (unhide HXB) 1
              have y2 : w5.cell? ⟨xb, 2, none⟩ = some (.int .i64 (x.x.lo : Int)) := blk_cell (unhide HXB) 2
              have y3 : w5.cell? ⟨xb, 3, none⟩ = some (.int .i64 (x.x.hi : Int)) := blk_cell (unhide HXB) 3
              have y4 : w5.cell? ⟨xb, 4, none⟩ = some (.bool x.x.rest) := blk_cell (unhide HXB) 4
              have y5 : w5.cell? ⟨xb, 5, none⟩ = some (.int .i64 (x.x.mn : Int)) := blk_cell (unhide HXB) 5
              have y6 : w5.cell? ⟨xb, 6, none⟩ = some (.int .i64 (x.x.mx : Int)) := blk_cell (unhide HXB) 6
              have y7 : w5.cell? ⟨xb, 7, none⟩ = some (.int .i64 0) := blk_cell (unhide HXB) 7
              have y8 : w5.cell? ⟨xb, 8, none⟩ = some (.int .i64 0) := blk_cell (unhide HXB) 8
              have y9 : w5.cell? ⟨xb, 9, none⟩ = some (.int .i64 0) := blk_cell (unhide HXB) 9
              have p0 : w5.cell? ⟨pb, 0, none⟩ = some (.int .i64 (J : Int)) := cBel (unhide HB5) (blk_cell (unhide HPB) 0)
              have p3 : w5.cell? ⟨pb, 3, none⟩ = some (.slice (some ⟨gs, 0, none⟩) n cap) := cBel (unhide HB5) (blk_cell (unhide HPB) 3)
              obtain ⟨a2, a3⟩ := unhide HCA w5 (unhide HB5)
              obtain ⟨tb, htb⟩ : ∃ tb, tb = Hx.tightAt J L kk := ⟨_, rfl⟩
              rw [← htb] at HTA
              have HTB := hide htb
              clear htb
              go_cut [82] (fun s82 wc => s82 = .bool tb ∧ ∃ m, wc = w5.drewN m)
              case first =>
                cases hr : x.x.rest with
                | false =>
                  have htf : tb = false := by rw [unhide HTA, hr]; rfl
                  subst htf
                  rw [hr] at y4
                  clear hr
                  go_quiet (fail)
                  go_wp2_with fail
                  go_meet
                  case rel => exact ⟨rfl, _, rfl⟩
                | true =>
                  have htf : tb = decide ((a.x.lo : Int) + x.x.mx - J < (J : Int) + a.x.hi + x.x.mn) := by rw [unhide HTA, hr]; rfl
                  rw [hr] at y4
                  have HTF := hide htf
                  clear hr htf
                  go_quiet (fail)
                  go_wp2_with fail
                  go_meet
                  case rel => exact ⟨by rw [unhide HTF], _, rfl⟩
              case rest =>
                obtain ⟨rfl, dm, hdm⟩ := hcut
                have HB6 : Hid (Below W.heap.size W wc) := by rw [hdm]; exact below_drewN (unhide HB5) dm
                have HXB6 : Hid (wc.heap[xb]? = some (.cells #[.int .i64 (x.pl : Int), .int .i64 (x.no : Int), .int .i64 (x.x.lo : Int), .int .i64 (x.x.hi : Int), .bool x.x.rest, .int .i64 (x.x.mn : Int), .int .i64 (x.x.mx : Int), .int .i64 0, .int .i64 0, .int .i64 0] 53 (0, 0))) := by rw [hdm]; exact unhide HXB
                clear hdm y0 y1 y2 y3 y4 y5 y6 y7 y8 y9 p0 p3 a2 a3 HXB HB5
                cases htv : tb with
                | false =>
                  have HTI2 : Hid (∀ i, i < kk + 1 → Hx.tightAt J L i = false) := fun i hi => by
                    by_cases e : i = kk
                    · rw [e, ← unhide HTB, htv]
                    · exact unhide HTI i (by omega)
                  clear htv
                  go_wp2_with fail
                  go_roundg (n - (q + 1))
                  case measure => exact unhide HGK
                  case rel => exact ⟨q + 1, kk + 1, by rw [unhide HKQ], by omega, rfl, by go_num, HTI2, unhide HB6⟩
                | true =>
                  have hft : Hx.firstTight J L = some kk := Hx.firstTight_some (by rw [← unhide HLN]; exact hlt) (unhide HTI) (by rw [← unhide HTB, htv])
                  have htt : Hx.turnOfIdx ps kk = ⟨x.x, x.pl, x.no, Hx.restAfter (Hx.labs ps) kk⟩ := Hx.turn_at (by rw [← unhide HL]; exact unhide HX)
                  have hsmt := Hx.turn_sm (unhide HG) (i := kk) (by rw [← unhide HL, ← unhide HLN]; exact hlt)
                  rw [htt] at hsmt
                  have hxp : x.pl < 26 := hsmt.pl26
                  have hxn : x.no < 10 := hsmt.no
                  have HF : Hid (FIN = (Hx.nmB x.pl x.no, false, 6)) := by
                    show _ = _
                    rw [unhide HF2, hft, if_pos (by rfl)]
                    unfold Hx.tightT
                    rw [← unhide HL, hft]
                    simp only
                    rw [htt]; rfl
                  have HNM : Hid (Calls Tryz.prog 21 #[.agg #[.int .i64 (x.pl : Int), .int .i64 (x.no : Int), .int .i64 (x.x.lo : Int), .int .i64 (x.x.hi : Int), .bool x.x.rest, .int .i64 (x.x.mn : Int), .int .i64 (x.x.mx : Int), .int .i64 0, .int .i64 0, .int .i64 0]] wc fun e w' => e = .returned (.string ⟨(Hx.nmB x.pl x.no).toArray⟩) ∧ Below wc.heap.size wc w') := by
                    show Calls _ _ _ _ _
                    rw [← nameB_nm _ _ hxn]; exact name_any x 0 0 0 wc hxp (by omega)
                  have z0 : wc.cell? ⟨xb, 0, none⟩ = some (.int .i64 (x.pl : Int)) := blk_cell (unhide HXB6) 0
                  have z1 : wc.cell? ⟨xb, 1, none⟩ = some (.int .i64 (x.no : Int)) := blk_cell (unhide HXB6) 1
                  have z2 : wc.cell? ⟨xb, 2, none⟩ = some (.int .i64 (x.x.lo : Int)) := blk_cell (unhide HXB6) 2
                  have z3 : wc.cell? ⟨xb, 3, none⟩ = some (.int .i64 (x.x.hi : Int)) := blk_cell (unhide HXB6) 3
                  have z4 : wc.cell? ⟨xb, 4, none⟩ = some (.bool x.x.rest) := blk_cell (unhide HXB6) 4
                  have z5 : wc.cell? ⟨xb, 5, none⟩ = some (.int .i64 (x.x.mn : Int)) := blk_cell (unhide HXB6) 5
                  have z6 : wc.cell? ⟨xb, 6, none⟩ = some (.int .i64 (x.x.mx : Int)) := blk_cell (unhide HXB6) 6
                  have z7 : wc.cell? ⟨xb, 7, none⟩ = some (.int .i64 0) := blk_cell (unhide HXB6) 7
                  have z8 : wc.cell? ⟨xb, 8, none⟩ = some (.int .i64 0) := blk_cell (unhide HXB6) 8
                  have z9 : wc.cell? ⟨xb, 9, none⟩ = some (.int .i64 0) := blk_cell (unhide HXB6) 9
                  clear htv hft htt hsmt
                  go_wp2_with fail
                  refine (unhide HNM).mono ?_
                  rintro e w7 ⟨rfl, hb7⟩
                  have HB7 := hide (belB hb7 (unhide HB6))
                  clear hb7
                  go_wp2_with fail
                  go_returns
                  exact ⟨by rw [unhide HF]; rfl, (unhide HB3).trans ((unhide HB7).mono (unhide HB3).size)⟩
            · have hke : kk = n := by omega
              have hkI : ¬ (kk : Int) < (n : Int) := by omega
              have HBE := hide hbe
              have HF3 : Hid (FIN = Hx.planB J K D ps N.toNat) := by
                show _ = _
                have e : Hx.firstTight J L = none := by
                  rw [unhide HL]
                  refine Hx.firstTight_none (fun i hi => ?_)
                  rw [Hx.offP_end, ← unhide HL, ← unhide HLN] at hi
                  rw [← unhide HL]
                  exact unhide HTI i (by omega)
                rw [unhide HF2, e]; rfl
              clear hbe HTI hke HF2
              obtain ⟨M, rfl⟩ : ∃ M : Nat, N = (M : Int) := ⟨N.toNat, by omega⟩
              rw [Int.toNat_natCast] at HF3
              have hM1 : M ≤ 1000 := by omega
              have HSTP : Hid (∀ w', Below W.heap.size W w' → Stps w' (.slice (some ⟨gs, 0, none⟩) n cap) L) := fun w' hb => by
                refine ⟨?_, fun y hy => ?_, by rw [← unhide HLN]; exact hLp, by rw [← unhide HLN]; omega⟩
                · rw [unhide HLN]; exact own_below (unhide HROW) hb
                · obtain ⟨i, hi, e⟩ := List.mem_iff_getElem.1 hy
                  have hyi : (Hx.labs ps)[i]? = some y := by rw [← unhide HL, List.getElem?_eq_getElem hi, e]
                  have := Hx.turn_sm (unhide HG) (Hx.getElem?_lt hyi)
                  rw [Hx.turn_at hyi] at this
                  exact this.pl26
              obtain ⟨A, hA⟩ : ∃ A, A = Hx.allO K L L.length [] := ⟨_, rfl⟩
              have HORD : Hid (∀ w', Below W.heap.size W w' → Calls Tryz.prog 22 #[.agg #[.int .i64 (J : Int), .int .i64 (K : Int), .int .i64 (D : Int), .slice (some ⟨gs, 0, none⟩) n cap, .int .i64 (pl : Int)], .slice none 0 0, .int .i64 ((M : Int) + 1)] w' fun e w2 => ∃ v, e = .returned v ∧ Ords w2 w'.heap.size v (A.take (M + 1)) ∧ Below w'.heap.size w' w2) := fun w' hb => by
                rw [hA]
                exact orders_any J K D (pl : Int) _ L L.length (.slice none 0 0) [] (M + 1) ((M : Int) + 1) w' (unhide HSTP w' hb) (World.ownsRow_nil _ _ _ _) (by simp) (fun i hi => (by cases hi)) (by omega) (by omega) (by omega)
              have HOF : Hid (∀ o, o ∈ A → Hx.Ord ps o ∧ o ∈ Hx.allO K (Hx.labs ps) (Hx.labs ps).length []) := fun o ho => by
                rw [hA, unhide HL] at ho
                exact ⟨Hx.order_is (unhide HG).fine ho, ho⟩
              have HFA : Hid (FIN = match Hx.bestF J D ps (A.take M) with
                  | some b => ((Hx.writeF J ps.length (Hx.pairs (b.o.map (Hx.turnOfIdx ps)) b.f), !decide (M < A.length), 0) : List UInt8 × Bool × Int)
                  | none => ([], false, if decide (M < A.length) then 8 else 7)) := by
                show _ = _
                have hm := Hx.more_is (unhide HG) M
                rw [← unhide HL, ← hA] at hm
                rw [unhide HF3, Hx.planB, Hx.ordersF_fst, ← unhide HL, ← hA, hm]
                rfl
              clear hA HF3 HT0 HTS
              have p0 : wr.cell? ⟨pb, 0, none⟩ = some (.int .i64 (J : Int)) := cBel (unhide HBE) (blk_cell (unhide HPB) 0)
              have p1 : wr.cell? ⟨pb, 1, none⟩ = some (.int .i64 (K : Int)) := cBel (unhide HBE) (blk_cell (unhide HPB) 1)
              have p2 : wr.cell? ⟨pb, 2, none⟩ = some (.int .i64 (D : Int)) := cBel (unhide HBE) (blk_cell (unhide HPB) 2)
              have p4 : wr.cell? ⟨pb, 4, none⟩ = some (.int .i64 (pl : Int)) := cBel (unhide HBE) (blk_cell (unhide HPB) 4)
              go_wp2_with fail
              refine (unhide HORD wr (unhide HBE)).mono ?_
              rintro e w6 ⟨v, rfl, hords, hb6⟩
              obtain ⟨AL, hAL⟩ : ∃ AL, AL = A.take (M + 1) := ⟨_, rfl⟩
              rw [← hAL] at hords
              obtain ⟨ga, capa, rfl⟩ := hords.form
              have HAL := hide hAL
              have HORDS := hide hords
              have HB6 := hide (belB hb6 (unhide HBE))
              have hall : AL.length ≤ 1001 := by rw [hAL, List.length_take]; omega
              clear hords hb6 hAL HBE p0 p1 p2 p4 s3 HORD
              go_wp2_with fail
              go_loopg [14, 15, 16] (M + 1) (fun gk bv ev kv wr => ∃ (k : Nat) (bi en : Int), k ≤ AL.length ∧ k ≤ M ∧ gk = M + 1 - k ∧ bv = .int .i64 bi ∧ ev = .int .i64 en ∧ kv = .int .i64 (k : Int) ∧ Hid (BSt J D ps A k bi en) ∧ Below w6.heap.size w6 wr)
              case atStart => exact ⟨0, -1, 0, Nat.zero_le _, Nat.zero_le _, rfl, rfl, rfl, rfl, BSt.start _ _ _ _, Below.refl _ _⟩
              case round =>
                obtain ⟨k, bi, en, hk1, hk2, rfl, rfl, rfl, rfl, HBS, hbe⟩ := hrel
                have HBE := hide hbe
                clear hbe
                by_cases hlk : k < AL.length ∧ k < M
                · obtain ⟨hka, hkM⟩ := hlk
                  obtain ⟨o, hoAL⟩ : ∃ o, AL[k]? = some o := ⟨_, List.getElem?_eq_getElem hka⟩
                  have hoA : A[k]? = some o := by
                    rw [unhide HAL, List.getElem?_take] at hoAL
                    split at hoAL
                    · exact hoAL
                    · cases hoAL
                  obtain ⟨hord, hoin⟩ := unhide HOF o (List.mem_of_getElem? hoA)
                  have hon : o.length = n := by rw [hord.len, ← unhide HL, ← unhide HLN]
                  obtain ⟨vs, hrowA, hel⟩ := unhide HORDS
                  obtain ⟨gall, capa2, e, _, _⟩ := own_pos hrowA (by omega)
                  cases e
                  obtain ⟨u, hu, huo⟩ := hel k o hoAL
                  obtain ⟨go, capo, rfl, _, hgo⟩ := own_pos huo (by omega)
                  have hsA : w6.cell? ⟨gall, k, none⟩ = some (.slice (some ⟨go, 0, none⟩) n capo) := by
                    rw [hrowA.cellAt k (by omega), hu, hon]
                  have HUO : Hid (w6.ownsRow 0 3 1 (.slice (some ⟨go, 0, none⟩) n capo) o.length (ints (nats o))) := by
                    have h1 := huo
                    rw [hon] at h1
                    show World.ownsRow _ _ _ _ _ _ _
                    rw [hon]; exact h1
                  have HTM : Hid (∀ w', Below w6.heap.size w6 w' → Calls Tryz.prog 23 #[.agg #[.int .i64 (J : Int), .int .i64 (K : Int), .int .i64 (D : Int), .slice (some ⟨gs, 0, none⟩) n cap, .int .i64 (pl : Int)], .slice (some ⟨go, 0, none⟩) n capo] w' fun e w2 => ∃ tv ok, e = .returned (.tuple #[tv, .bool ok]) ∧ Below w'.heap.size w' w2 ∧ TmR J ps o tv ok w2) := fun w' hb => by
                    have hst := unhide HSTP w' (belB hb (unhide HB6))
                    rw [unhide HL] at hst
                    exact rtimes_any (unhide HG) (pl : Int) _ _ o w' hst (own_below (unhide HUO) hb) hord
                  have SF : Hid (∀ w', Below w6.heap.size w6 w' → (w'.cell? ⟨pb, 0, none⟩ = some (.int .i64 (J : Int)) ∧ w'.cell? ⟨pb, 1, none⟩ = some (.int .i64 (K : Int)) ∧ w'.cell? ⟨pb, 2, none⟩ = some (.int .i64 (D : Int)) ∧ w'.cell? ⟨pb, 3, none⟩ = some (.slice (some ⟨gs, 0, none⟩) n cap) ∧ w'.cell? ⟨pb, 4, none⟩ = some (.int .i64 (pl : Int)) ∧ w'.cell? ⟨gall, k, none⟩ = some (.slice (some ⟨go, 0, none⟩) n capo))) := fun w' hb => by
                    have hbw := belB hb (unhide HB6)
                    exact ⟨cBel hbw (blk_cell (unhide HPB) 0), cBel hbw (blk_cell (unhide HPB) 1), cBel hbw (blk_cell (unhide HPB) 2), cBel hbw (blk_cell (unhide HPB) 3), cBel hbw (blk_cell (unhide HPB) 4), cBel hb hsA⟩
                  have HORDP := hide hord
                  have HOA := hide hoA
                  have HON := hide hon
                  obtain ⟨s0, s1, s2, s3, s4, s5⟩ := unhide SF wr (unhide HBE)
                  have hkI : (k : Int) < (AL.length : Int) := by omega
                  have hkMI : (k : Int) < (M : Int) := by omega
                  have hk0 : (0 : Int) ≤ (k : Int) := by omega
                  have HGK : Hid (M + 1 - (k + 1) < M + 1 - k) := by show _ < _; omega
                  clear hoAL hoA hord hoin hon hrowA hel hu huo hsA hka hkM
                  go_upto_region 19 with fail
                  go_cut [17, 18] (fun s17 s18 wc => ∃ ok, s18 = .bool ok ∧ TmR J ps o s17 ok wc ∧ Below w6.heap.size w6 wc)
                  case first =>
                    go_region_held3 (fun w' => w'.cell? ⟨pb, 0, none⟩ = some (.int .i64 (J : Int)) ∧ w'.cell? ⟨pb, 1, none⟩ = some (.int .i64 (K : Int)) ∧ w'.cell? ⟨pb, 2, none⟩ = some (.int .i64 (D : Int)) ∧ w'.cell? ⟨pb, 3, none⟩ = some (.slice (some ⟨gs, 0, none⟩) n cap) ∧ w'.cell? ⟨pb, 4, none⟩ = some (.int .i64 (pl : Int)) ∧ w'.cell? ⟨gall, k, none⟩ = some (.slice (some ⟨go, 0, none⟩) n capo)) (exact unhide SF _ (by (repeat with_reducible (first | exact unhide HBE | apply belD | apply belN | refine belB (by assumption) ?_))))
                      (first
                        | (go_at_call 23; refine (unhide HTM _ ?_).mono ?_; (repeat with_reducible (first | exact unhide HBE | apply belD | apply belN | refine belB (by assumption) ?_)); rintro r w8 ⟨tv, okb, rfl, hb8, ht8⟩))
                    all_goals
                      go_wp2_with fail
                      go_meet
                      case rel =>
                        refine ⟨_, rfl, ?_, ?_⟩
                        · (repeat with_reducible (first | assumption | apply TmR.drewN))
                        · (repeat with_reducible (first | exact unhide HBE | apply belD | apply belN | refine belB (by assumption) ?_))
                  case rest =>
                    obtain ⟨okb, rfl, htm, hbc⟩ := hcut
                    have HBC := hide hbc
                    clear hbc HBE s0 s1 s2 s3 s4 s5
                    rcases htm with ⟨rfl, rfl, hno⟩ | ⟨rfl, gt, f, rfl, hyes, hgt, hcs, heq⟩
                    · have HBN : Hid (BSt J D ps A (k + 1) bi en) := (unhide HBS).none (unhide HOA) (by unfold Hx.candF; rw [hno])
                      clear hno
                      go_upto_region 20 with fail
                      go_cut [136] (fun s136 wd => s136 = .bool false ∧ Below w6.heap.size w6 wd)
                      case first =>
                        go_quiet (fail)
                        go_wp2_with fail
                        go_meet
                        case rel => exact ⟨rfl, below_drewN (unhide HBC) _⟩
                      case rest =>
                        obtain ⟨rfl, hbd⟩ := hcut
                        have HBD := hide hbd
                        clear hbd
                        go_wp2_with fail
                        go_roundg (M + 1 - (k + 1))
                        case measure => exact unhide HGK
                        case rel => exact ⟨k + 1, bi, en, by omega, by omega, rfl, rfl, rfl, by go_num, HBN, unhide HBD⟩
                    · have hln : (Hx.labs ps).length = n := by rw [← unhide HL, ← unhide HLN]
                      rw [hln] at hcs heq ⊢
                      obtain ⟨x, hx⟩ : ∃ x, x = o.getD (n - 1) 0 := ⟨_, rfl⟩
                      have hxn : x < n := by
                        rw [hx, ← hln]
                        exact (unhide HORDP).lt _ (List.mem_of_getElem? (Hx.getD_at (by rw [unhide HON]; omega)))
                      obtain ⟨y, hy⟩ : ∃ y, L[x]? = some y := ⟨_, List.getElem?_eq_getElem (by rw [← unhide HLN]; exact hxn)⟩
                      have hyh := (unhide HSM y (List.mem_of_getElem? hy)).2.1
                      obtain ⟨ev, hev⟩ : ∃ ev, ev = f (n - 1) + (J : Int) + (y.x.hi : Int) := ⟨_, rfl⟩
                      have HCAND : Hid (Hx.candF J D ps o = if ev ≤ (D : Int) then some (f, ev) else none) := by
                        show _ = _
                        have e : Hx.endT J (o.map (Hx.turnOfIdx ps)) f = ev := by
                          unfold Hx.endT
                          rw [List.length_map, unhide HON, Hx.map_at (Hx.getD_at (by rw [unhide HON]; omega)), ← hx, Hx.turn_at (by rw [← unhide HL]; exact hy), hev]
                        unfold Hx.candF
                        rw [hyes]
                        simp only
                        rw [e]
                      have HEND : Hid (∀ w', Below w6.heap.size w6 w' → Below wc.heap.size wc w' → Calls Tryz.prog 24 #[.agg #[.int .i64 (J : Int), .int .i64 (K : Int), .int .i64 (D : Int), .slice (some ⟨gs, 0, none⟩) n cap, .int .i64 (pl : Int)], .slice (some ⟨go, 0, none⟩) n capo, .slice (some ⟨gt, 0, none⟩) n (n + 1)] w' fun e w2 => e = .returned (.int .i64 ev) ∧ Below w'.heap.size w' w2) := fun w' hb hbc => by
                        have hbW := belB hb (unhide HB6)
                        have ct := cBel hbc (hcs x hxn).1
                        have co : w'.cell? ⟨go, n - 1, none⟩ = some (.int .i64 (x : Int)) := cBel hb (by
                          have h1 := unhide HUO
                          rw [unhide HON] at h1
                          rw [hx]
                          exact ord_at h1 (unhide HON).symm (by omega))
                        have cs : w'.cell? ⟨gs, x * 10 + 3, none⟩ = some (.int .i64 (y.x.hi : Int)) := by
                          rw [hbW.cell (p := ⟨gs, x * 10 + 3, none⟩) hgsW, own_lst (unhide HROW) x y hy 3 (by omega)]; rfl
                        exact end_big J (K : Int) (D : Int) (pl : Int) gs cap n go n capo gt n (n + 1) x y.x.hi _ w' (World.block_lt_of_cell? _ _ cs) (World.block_lt_of_cell? _ _ co) (World.block_lt_of_cell? _ _ ct) (by omega) (by omega) hxn (by omega) co ct cs (by omega) (by omega) (hcs x hxn).2.1 (by have := (hcs x hxn).2.2; omega) ev (by rw [hev, ← heq (n - 1) (by omega), hx])
                      obtain ⟨s0, s1, s2, s3, s4, s5⟩ := unhide SF wc (unhide HBC)
                      have HEV := hide hev
                      clear hyes hgt hcs heq hx hy hev hln hxn hyh
                      by_cases hD : ev ≤ (D : Int)
                      · obtain ⟨tb, htb⟩ : ∃ tb, tb = (decide (bi < 0) || decide (ev < en)) := ⟨_, rfl⟩
                        have HTBX := hide htb
                        clear htb
                        go_upto_region 20 with fail
                        go_cut [136] (fun s136 wd => s136 = .bool tb ∧ Below w6.heap.size w6 wd ∧ Below wc.heap.size wc wd)
                        case first =>
                          by_cases hneg : bi < 0
                          · have htt : tb = true := by rw [unhide HTBX]; simp [hneg]
                            subst htt
                            refine wp_region_held_drew (S := fun w' => w'.cell? ⟨pb, 0, none⟩ = some (.int .i64 (J : Int)) ∧ w'.cell? ⟨pb, 1, none⟩ = some (.int .i64 (K : Int)) ∧ w'.cell? ⟨pb, 2, none⟩ = some (.int .i64 (D : Int)) ∧ w'.cell? ⟨pb, 3, none⟩ = some (.slice (some ⟨gs, 0, none⟩) n cap) ∧ w'.cell? ⟨pb, 4, none⟩ = some (.int .i64 (pl : Int)) ∧ w'.cell? ⟨gall, k, none⟩ = some (.slice (some ⟨go, 0, none⟩) n capo)) (by kernel_rfl) (unhide SF _ (by (repeat with_reducible (first | exact unhide HBC | apply belD | apply belN | refine belB (by assumption) ?_)))) (fun hHeld => ?_)
                            refine take_at (i := 0) (d := 109) (v := ?vn0) rfl rfl (by kernel_rfl) (by kernel_rfl) (by kernel_rfl) (fun _ _ _ h => h) (Or.inl ⟨by rfl, ?yn0⟩) (by assumption) ?rn0
                            case yn0 => (intro w hSw; (try dsimp only at hSw); go_simp; (try with_reducible rfl))
                            try simp only [Act.put, List.setIfInBounds_toArray, List.set_cons_zero, List.set_cons_succ]
                            refine take_at (i := 1) (d := 110) (v := ?vn1) rfl rfl (by kernel_rfl) (by kernel_rfl) (by kernel_rfl) (fun _ _ _ h => h) (Or.inl ⟨by rfl, ?yn1⟩) (by assumption) ?rn1
                            case yn1 => (intro w hSw; (try dsimp only at hSw); go_simp; (try with_reducible rfl))
                            try simp only [Act.put, List.setIfInBounds_toArray, List.set_cons_zero, List.set_cons_succ]
                            refine take_at (i := 2) (d := 111) (v := ?vn2) rfl rfl (by kernel_rfl) (by kernel_rfl) (by kernel_rfl) (fun _ _ _ h => h) (Or.inl ⟨by rfl, ?yn2⟩) (by assumption) ?rn2
                            case yn2 => (intro w hSw; (try dsimp only at hSw); go_simp; (try with_reducible rfl))
                            try simp only [Act.put, List.setIfInBounds_toArray, List.set_cons_zero, List.set_cons_succ]
                            refine take_at (i := 3) (d := 112) (v := ?vn3) rfl rfl (by kernel_rfl) (by kernel_rfl) (by kernel_rfl) (fun _ _ _ h => h) (Or.inl ⟨by rfl, ?yn3⟩) (by assumption) ?rn3
                            case yn3 => (intro w hSw; (try dsimp only at hSw); go_simp; (try with_reducible rfl))
                            try simp only [Act.put, List.setIfInBounds_toArray, List.set_cons_zero, List.set_cons_succ]
                            refine take_at (i := 4) (d := 113) (v := ?vn4) rfl rfl (by kernel_rfl) (by kernel_rfl) (by kernel_rfl) (fun _ _ _ h => h) (Or.inl ⟨by rfl, ?yn4⟩) (by assumption) ?rn4
                            case yn4 => (intro w hSw; (try dsimp only at hSw); go_simp; (try with_reducible rfl))
                            try simp only [Act.put, List.setIfInBounds_toArray, List.set_cons_zero, List.set_cons_succ]
                            refine take_at (i := 5) (d := 114) (v := ?vn5) rfl rfl (by kernel_rfl) (by kernel_rfl) (by kernel_rfl) (fun _ _ _ h => h) (Or.inl ⟨by rfl, ?yn5⟩) (by assumption) ?rn5
                            case yn5 => (intro w hSw; (try dsimp only at hSw); go_simp; (try with_reducible rfl))
                            try simp only [Act.put, List.setIfInBounds_toArray, List.set_cons_zero, List.set_cons_succ]
                            refine take_at (i := 6) (d := 115) (v := ?vn6) rfl rfl (by kernel_rfl) (by kernel_rfl) (by kernel_rfl) (fun _ _ _ h => h) (Or.inl ⟨by rfl, ?yn6⟩) (by assumption) ?rn6
                            case yn6 => (intro w hSw; (try dsimp only at hSw); go_simp; (try with_reducible rfl))
                            try simp only [Act.put, List.setIfInBounds_toArray, List.set_cons_zero, List.set_cons_succ]
                            refine take_at (i := 7) (d := 116) (v := ?vn7) rfl rfl (by kernel_rfl) (by kernel_rfl) (by kernel_rfl) (fun _ _ _ h => h) (Or.inl ⟨by rfl, ?yn7⟩) (by assumption) ?rn7
                            case yn7 => (intro w hSw; (try dsimp only at hSw); go_simp; (try with_reducible rfl))
                            try simp only [Act.put, List.setIfInBounds_toArray, List.set_cons_zero, List.set_cons_succ]
                            refine take_at (i := 9) (d := 118) (v := ?vn9) rfl rfl (by kernel_rfl) (by kernel_rfl) (by kernel_rfl) (fun _ _ _ h => h) (Or.inl ⟨by rfl, ?yn9⟩) (by assumption) ?rn9
                            case yn9 => (intro w hSw; (try dsimp only at hSw); go_simp; (try with_reducible rfl))
                            try simp only [Act.put, List.setIfInBounds_toArray, List.set_cons_zero, List.set_cons_succ]
                            refine take_at (i := 10) (d := 119) (v := ?vn10) rfl rfl (by kernel_rfl) (by kernel_rfl) (by kernel_rfl) (fun _ _ _ h => h) (Or.inl ⟨by rfl, ?yn10⟩) (by assumption) ?rn10
                            case yn10 => (intro w hSw; (try dsimp only at hSw); go_simp; (try with_reducible rfl))
                            try simp only [Act.put, List.setIfInBounds_toArray, List.set_cons_zero, List.set_cons_succ]
                            refine wpAnyH_ready (rs := [8]) (by kernel_rfl) (by simp) ?_
                            refine AllReadyH.cons (o := { dst := some 117, op := Op.call { callee := Callee.value (Operand.func 24), args := #[Operand.tmp 111, Operand.tmp 115, Operand.tmp 116], argTypes := #[49, 64, 64] }, type := 3, pos := "plan.go:162", after := #[{ on := 2, ground := Ground.data }, { on := 6, ground := Ground.data }, { on := 7, ground := Ground.data }, { on := 1, ground := Ground.chain }, { on := 1, ground := Ground.guard }], guard := some (1, true) }) rfl (fun K2 hK => ?_) AllReadyH.nil
                            go_simp
                            go_at_call 24
                            refine (unhide HEND _ ?_ ?_).mono ?_
                            case refine_1 => exact by (repeat with_reducible (first | exact unhide HBC | apply belD | apply belN | refine belB (by assumption) ?_))
                            case refine_2 => exact by (repeat with_reducible (first | exact Below.refl _ _ | apply belD | apply belN | refine belB (by assumption) ?_))
                            rintro r w8 ⟨rfl, hb8⟩
                            go_wp2_with fail
                            refine hK.out _ _ ?_ (fun hHeld2 => ?_)
                            · exact unhide SF _ (by (repeat with_reducible (first | exact unhide HBC | apply belD | apply belN | refine belB (by assumption) ?_)))
                            clear hK hHeld K2
                            try simp only [Act.put, List.setIfInBounds_toArray, List.set_cons_zero, List.set_cons_succ]
                            refine take_at (i := 11) (d := 120) (v := .bool true) rfl rfl (by kernel_rfl) (by kernel_rfl) (by kernel_rfl) (fun _ _ _ h => h) (Or.inl ⟨by rfl, ?yn11⟩) (by assumption) ?rn11
                            case yn11 => (intro w hSw; (try dsimp only at hSw); go_simp)
                            try simp only [Act.put, List.setIfInBounds_toArray, List.set_cons_zero, List.set_cons_succ]
                            refine take_at (i := 12) (d := 121) (v := ?vn12) rfl rfl (by kernel_rfl) (by kernel_rfl) (by kernel_rfl) (fun _ _ _ h => h) (Or.inl ⟨by rfl, ?yn12⟩) (by assumption) ?rn12
                            case yn12 => (intro w hSw; (try dsimp only at hSw); go_simp; (try with_reducible rfl))
                            try simp only [Act.put, List.setIfInBounds_toArray, List.set_cons_zero, List.set_cons_succ]
                            refine take_at (i := 13) (d := 122) (v := ?vn13) rfl rfl (by kernel_rfl) (by kernel_rfl) (by kernel_rfl) (fun _ _ _ h => h) (Or.inl ⟨by rfl, ?yn13⟩) (by assumption) ?rn13
                            case yn13 => (intro w hSw; (try dsimp only at hSw); go_simp; (try with_reducible rfl))
                            try simp only [Act.put, List.setIfInBounds_toArray, List.set_cons_zero, List.set_cons_succ]
                            refine take_at (i := 14) (d := 123) (v := ?vn14) rfl rfl (by kernel_rfl) (by kernel_rfl) (by kernel_rfl) (fun _ _ _ h => h) (Or.inl ⟨by rfl, ?yn14⟩) (by assumption) ?rn14
                            case yn14 => (intro w hSw; (try dsimp only at hSw); go_simp; (try with_reducible rfl))
                            try simp only [Act.put, List.setIfInBounds_toArray, List.set_cons_zero, List.set_cons_succ]
                            refine take_at (i := 15) (d := 124) (v := .bool true) rfl rfl (by kernel_rfl) (by kernel_rfl) (by kernel_rfl) (fun _ _ _ h => h) (Or.inl ⟨by rfl, ?yn15⟩) (by assumption) ?rn15
                            case yn15 => (intro w hSw; (try dsimp only at hSw); go_simp)
                            try simp only [Act.put, List.setIfInBounds_toArray, List.set_cons_zero, List.set_cons_succ]
                            refine take_at (i := 16) (d := 125) (v := ?vn16) rfl rfl (by kernel_rfl) (by kernel_rfl) (by kernel_rfl) (fun _ _ _ h => h) (Or.inl ⟨by rfl, ?yn16⟩) (by assumption) ?rn16
                            case yn16 => (intro w hSw; (try dsimp only at hSw); go_simp; (try with_reducible rfl))
                            try simp only [Act.put, List.setIfInBounds_toArray, List.set_cons_zero, List.set_cons_succ]
                            refine take_at (i := 17) (d := 126) (v := undef) rfl rfl (by kernel_rfl) (by kernel_rfl) (by kernel_rfl) (fun _ _ _ h => h) (Or.inr ⟨by rfl, rfl⟩) (by assumption) ?_
                            try simp only [Act.put, List.setIfInBounds_toArray, List.set_cons_zero, List.set_cons_succ]
                            refine take_at (i := 18) (d := 127) (v := undef) rfl rfl (by kernel_rfl) (by kernel_rfl) (by kernel_rfl) (fun _ _ _ h => h) (Or.inr ⟨by rfl, rfl⟩) (by assumption) ?_
                            try simp only [Act.put, List.setIfInBounds_toArray, List.set_cons_zero, List.set_cons_succ]
                            refine take_at (i := 19) (d := 128) (v := undef) rfl rfl (by kernel_rfl) (by kernel_rfl) (by kernel_rfl) (fun _ _ _ h => h) (Or.inr ⟨by rfl, rfl⟩) (by assumption) ?_
                            try simp only [Act.put, List.setIfInBounds_toArray, List.set_cons_zero, List.set_cons_succ]
                            refine take_at (i := 20) (d := 129) (v := undef) rfl rfl (by kernel_rfl) (by kernel_rfl) (by kernel_rfl) (fun _ _ _ h => h) (Or.inr ⟨by rfl, rfl⟩) (by assumption) ?_
                            try simp only [Act.put, List.setIfInBounds_toArray, List.set_cons_zero, List.set_cons_succ]
                            refine take_at (i := 21) (d := 130) (v := undef) rfl rfl (by kernel_rfl) (by kernel_rfl) (by kernel_rfl) (fun _ _ _ h => h) (Or.inr ⟨by rfl, rfl⟩) (by assumption) ?_
                            try simp only [Act.put, List.setIfInBounds_toArray, List.set_cons_zero, List.set_cons_succ]
                            refine take_at (i := 22) (d := 131) (v := undef) rfl rfl (by kernel_rfl) (by kernel_rfl) (by kernel_rfl) (fun _ _ _ h => h) (Or.inr ⟨by rfl, rfl⟩) (by assumption) ?_
                            try simp only [Act.put, List.setIfInBounds_toArray, List.set_cons_zero, List.set_cons_succ]
                            refine take_at (i := 23) (d := 132) (v := undef) rfl rfl (by kernel_rfl) (by kernel_rfl) (by kernel_rfl) (fun _ _ _ h => h) (Or.inr ⟨by rfl, rfl⟩) (by assumption) ?_
                            try simp only [Act.put, List.setIfInBounds_toArray, List.set_cons_zero, List.set_cons_succ]
                            refine take_at (i := 24) (d := 133) (v := undef) rfl rfl (by kernel_rfl) (by kernel_rfl) (by kernel_rfl) (fun _ _ _ h => h) (Or.inr ⟨by rfl, rfl⟩) (by assumption) ?_
                            try simp only [Act.put, List.setIfInBounds_toArray, List.set_cons_zero, List.set_cons_succ]
                            refine take_at (i := 25) (d := 134) (v := undef) rfl rfl (by kernel_rfl) (by kernel_rfl) (by kernel_rfl) (fun _ _ _ h => h) (Or.inr ⟨by rfl, rfl⟩) (by assumption) ?_
                            try simp only [Act.put, List.setIfInBounds_toArray, List.set_cons_zero, List.set_cons_succ]
                            refine take_at (i := 26) (d := 135) (v := ?vn26) rfl rfl (by kernel_rfl) (by kernel_rfl) (by kernel_rfl) (fun _ _ _ h => h) (Or.inl ⟨by rfl, ?yn26⟩) (by assumption) ?rn26
                            case yn26 => (intro w hSw; (try dsimp only at hSw); go_simp; (try with_reducible rfl))
                            try simp only [Act.put, List.setIfInBounds_toArray, List.set_cons_zero, List.set_cons_succ]
                            refine take_at (i := 27) (d := 136) (v := ?vn27) rfl rfl (by kernel_rfl) (by kernel_rfl) (by kernel_rfl) (fun _ _ _ h => h) (Or.inl ⟨by rfl, ?yn27⟩) (by assumption) ?rn27
                            case yn27 => (intro w hSw; (try dsimp only at hSw); go_simp; (try with_reducible rfl))
                            try simp only [Act.put, List.setIfInBounds_toArray, List.set_cons_zero, List.set_cons_succ]
                            refine wpAnyH_done (by kernel_rfl) ?_ _
                            go_wp2_with fail
                            go_meet
                            case rel => exact ⟨rfl, by (repeat with_reducible (first | exact unhide HBC | apply belD | apply belN | refine belB (by assumption) ?_)), by (repeat with_reducible (first | exact Below.refl _ _ | apply belD | apply belN | refine belB (by assumption) ?_))⟩
                          · have htt : tb = decide (ev < en) := by rw [unhide HTBX]; simp [hneg]
                            have HTT := hide htt
                            have hbid : decide (bi < 0) = false := by simpa using hneg
                            clear htt
                            go_region_held3 (fun w' => w'.cell? ⟨pb, 0, none⟩ = some (.int .i64 (J : Int)) ∧ w'.cell? ⟨pb, 1, none⟩ = some (.int .i64 (K : Int)) ∧ w'.cell? ⟨pb, 2, none⟩ = some (.int .i64 (D : Int)) ∧ w'.cell? ⟨pb, 3, none⟩ = some (.slice (some ⟨gs, 0, none⟩) n cap) ∧ w'.cell? ⟨pb, 4, none⟩ = some (.int .i64 (pl : Int)) ∧ w'.cell? ⟨gall, k, none⟩ = some (.slice (some ⟨go, 0, none⟩) n capo)) (exact unhide SF _ (by (repeat with_reducible (first | exact unhide HBC | apply belD | apply belN | refine belB (by assumption) ?_)))) (first | (go_at_call 24; refine (unhide HEND _ ?_ ?_).mono ?_; (repeat with_reducible (first | exact unhide HBC | apply belD | apply belN | refine belB (by assumption) ?_)); (repeat with_reducible (first | exact Below.refl _ _ | apply belD | apply belN | refine belB (by assumption) ?_)); rintro r w8 ⟨rfl, hb8⟩))
                            all_goals
                              go_wp2_with fail
                              go_meet
                              case rel => exact ⟨by rw [unhide HTT], by (repeat with_reducible (first | exact unhide HBC | apply belD | apply belN | refine belB (by assumption) ?_)), by (repeat with_reducible (first | exact Below.refl _ _ | apply belD | apply belN | refine belB (by assumption) ?_))⟩
                        case rest =>
                          obtain ⟨rfl, hbd, hbcd⟩ := hcut
                          have HBD := hide hbd
                          have HBCD := hide hbcd
                          clear hbd hbcd s0 s1 s2 s3 s4 s5
                          cases hcb : tb with
                          | false =>
                            have htt := unhide HTBX
                            rw [hcb] at htt
                            have hn1 : ¬ bi < 0 ∧ ¬ ev < en := by simpa using htt.symm
                            have HBN : Hid (BSt J D ps A (k + 1) bi en) := (unhide HBS).worse (unhide HOA) (by rw [unhide HCAND, if_pos hD]) hn1.1 hn1.2
                            clear hn1 htt hcb HTBX
                            go_wp2_with fail
                            go_roundg (M + 1 - (k + 1))
                            case measure => exact unhide HGK
                            case rel => exact ⟨k + 1, bi, en, by omega, by omega, rfl, rfl, rfl, by go_num, HBN, unhide HBD⟩
                          | true =>
                            have htt := unhide HTBX
                            rw [hcb] at htt
                            have hn1 : bi < 0 ∨ ev < en := by simpa using htt.symm
                            have HBN : Hid (BSt J D ps A (k + 1) (k : Int) ev) := (unhide HBS).better (unhide HOA) (by rw [unhide HCAND, if_pos hD]) hn1
                            clear hn1 htt hcb HTBX
                            obtain ⟨s0, s1, s2, s3, s4, s5⟩ := unhide SF _ (unhide HBD)
                            go_upto_region 22 with fail
                            go_region_held3 (fun w' => w'.cell? ⟨pb, 0, none⟩ = some (.int .i64 (J : Int)) ∧ w'.cell? ⟨pb, 1, none⟩ = some (.int .i64 (K : Int)) ∧ w'.cell? ⟨pb, 2, none⟩ = some (.int .i64 (D : Int)) ∧ w'.cell? ⟨pb, 3, none⟩ = some (.slice (some ⟨gs, 0, none⟩) n cap) ∧ w'.cell? ⟨pb, 4, none⟩ = some (.int .i64 (pl : Int)) ∧ w'.cell? ⟨gall, k, none⟩ = some (.slice (some ⟨go, 0, none⟩) n capo)) (exact unhide SF _ (by (repeat with_reducible (first | exact unhide HBD | apply belD | apply belN | refine belB (by assumption) ?_)))) (first | (go_at_call 24; refine (unhide HEND _ ?_ ?_).mono ?_; (repeat with_reducible (first | exact unhide HBD | apply belD | apply belN | refine belB (by assumption) ?_)); (repeat with_reducible (first | exact unhide HBCD | apply belD | apply belN | refine belB (by assumption) ?_)); rintro r w8 ⟨rfl, hb8⟩))
                            all_goals
                              clear s0 s1 s2 s3 s4 s5
                              go_wp2_with fail
                              go_roundg (M + 1 - (k + 1))
                              case measure => exact unhide HGK
                              case rel => exact ⟨k + 1, (k : Int), ev, by omega, by omega, rfl, rfl, rfl, by go_num, HBN, by (repeat with_reducible (first | exact unhide HBD | apply belD | apply belN | refine belB (by assumption) ?_))⟩
                      · have HBN : Hid (BSt J D ps A (k + 1) bi en) := (unhide HBS).none (unhide HOA) (by rw [unhide HCAND, if_neg hD])
                        go_upto_region 20 with fail
                        go_cut [136] (fun s136 wd => s136 = .bool false ∧ Below w6.heap.size w6 wd ∧ Below wc.heap.size wc wd)
                        case first =>
                          refine wp_region_held_drew (S := fun w' => w'.cell? ⟨pb, 0, none⟩ = some (.int .i64 (J : Int)) ∧ w'.cell? ⟨pb, 1, none⟩ = some (.int .i64 (K : Int)) ∧ w'.cell? ⟨pb, 2, none⟩ = some (.int .i64 (D : Int)) ∧ w'.cell? ⟨pb, 3, none⟩ = some (.slice (some ⟨gs, 0, none⟩) n cap) ∧ w'.cell? ⟨pb, 4, none⟩ = some (.int .i64 (pl : Int)) ∧ w'.cell? ⟨gall, k, none⟩ = some (.slice (some ⟨go, 0, none⟩) n capo)) (by kernel_rfl) (unhide SF _ (by (repeat with_reducible (first | exact unhide HBC | apply belD | apply belN | refine belB (by assumption) ?_)))) (fun hHeld => ?_)
                          refine take_at (i := 0) (d := 109) (v := ?vd0) rfl rfl (by kernel_rfl) (by kernel_rfl) (by kernel_rfl) (fun _ _ _ h => h) (Or.inl ⟨by rfl, ?yd0⟩) (by assumption) ?rd0
                          case yd0 => (intro w hSw; (try dsimp only at hSw); go_simp; (try with_reducible rfl))
                          try simp only [Act.put, List.setIfInBounds_toArray, List.set_cons_zero, List.set_cons_succ]
                          refine take_at (i := 1) (d := 110) (v := ?vd1) rfl rfl (by kernel_rfl) (by kernel_rfl) (by kernel_rfl) (fun _ _ _ h => h) (Or.inl ⟨by rfl, ?yd1⟩) (by assumption) ?rd1
                          case yd1 => (intro w hSw; (try dsimp only at hSw); go_simp; (try with_reducible rfl))
                          try simp only [Act.put, List.setIfInBounds_toArray, List.set_cons_zero, List.set_cons_succ]
                          refine take_at (i := 2) (d := 111) (v := ?vd2) rfl rfl (by kernel_rfl) (by kernel_rfl) (by kernel_rfl) (fun _ _ _ h => h) (Or.inl ⟨by rfl, ?yd2⟩) (by assumption) ?rd2
                          case yd2 => (intro w hSw; (try dsimp only at hSw); go_simp; (try with_reducible rfl))
                          try simp only [Act.put, List.setIfInBounds_toArray, List.set_cons_zero, List.set_cons_succ]
                          refine take_at (i := 3) (d := 112) (v := ?vd3) rfl rfl (by kernel_rfl) (by kernel_rfl) (by kernel_rfl) (fun _ _ _ h => h) (Or.inl ⟨by rfl, ?yd3⟩) (by assumption) ?rd3
                          case yd3 => (intro w hSw; (try dsimp only at hSw); go_simp; (try with_reducible rfl))
                          try simp only [Act.put, List.setIfInBounds_toArray, List.set_cons_zero, List.set_cons_succ]
                          refine take_at (i := 4) (d := 113) (v := ?vd4) rfl rfl (by kernel_rfl) (by kernel_rfl) (by kernel_rfl) (fun _ _ _ h => h) (Or.inl ⟨by rfl, ?yd4⟩) (by assumption) ?rd4
                          case yd4 => (intro w hSw; (try dsimp only at hSw); go_simp; (try with_reducible rfl))
                          try simp only [Act.put, List.setIfInBounds_toArray, List.set_cons_zero, List.set_cons_succ]
                          refine take_at (i := 5) (d := 114) (v := ?vd5) rfl rfl (by kernel_rfl) (by kernel_rfl) (by kernel_rfl) (fun _ _ _ h => h) (Or.inl ⟨by rfl, ?yd5⟩) (by assumption) ?rd5
                          case yd5 => (intro w hSw; (try dsimp only at hSw); go_simp; (try with_reducible rfl))
                          try simp only [Act.put, List.setIfInBounds_toArray, List.set_cons_zero, List.set_cons_succ]
                          refine take_at (i := 6) (d := 115) (v := ?vd6) rfl rfl (by kernel_rfl) (by kernel_rfl) (by kernel_rfl) (fun _ _ _ h => h) (Or.inl ⟨by rfl, ?yd6⟩) (by assumption) ?rd6
                          case yd6 => (intro w hSw; (try dsimp only at hSw); go_simp; (try with_reducible rfl))
                          try simp only [Act.put, List.setIfInBounds_toArray, List.set_cons_zero, List.set_cons_succ]
                          refine take_at (i := 7) (d := 116) (v := ?vd7) rfl rfl (by kernel_rfl) (by kernel_rfl) (by kernel_rfl) (fun _ _ _ h => h) (Or.inl ⟨by rfl, ?yd7⟩) (by assumption) ?rd7
                          case yd7 => (intro w hSw; (try dsimp only at hSw); go_simp; (try with_reducible rfl))
                          try simp only [Act.put, List.setIfInBounds_toArray, List.set_cons_zero, List.set_cons_succ]
                          refine take_at (i := 9) (d := 118) (v := ?vd9) rfl rfl (by kernel_rfl) (by kernel_rfl) (by kernel_rfl) (fun _ _ _ h => h) (Or.inl ⟨by rfl, ?yd9⟩) (by assumption) ?rd9
                          case yd9 => (intro w hSw; (try dsimp only at hSw); go_simp; (try with_reducible rfl))
                          try simp only [Act.put, List.setIfInBounds_toArray, List.set_cons_zero, List.set_cons_succ]
                          refine take_at (i := 10) (d := 119) (v := ?vd10) rfl rfl (by kernel_rfl) (by kernel_rfl) (by kernel_rfl) (fun _ _ _ h => h) (Or.inl ⟨by rfl, ?yd10⟩) (by assumption) ?rd10
                          case yd10 => (intro w hSw; (try dsimp only at hSw); go_simp; (try with_reducible rfl))
                          try simp only [Act.put, List.setIfInBounds_toArray, List.set_cons_zero, List.set_cons_succ]
                          refine wpAnyH_ready (rs := [8]) (by kernel_rfl) (by simp) ?_
                          refine AllReadyH.cons (o := { dst := some 117, op := Op.call { callee := Callee.value (Operand.func 24), args := #[Operand.tmp 111, Operand.tmp 115, Operand.tmp 116], argTypes := #[49, 64, 64] }, type := 3, pos := "plan.go:162", after := #[{ on := 2, ground := Ground.data }, { on := 6, ground := Ground.data }, { on := 7, ground := Ground.data }, { on := 1, ground := Ground.chain }, { on := 1, ground := Ground.guard }], guard := some (1, true) }) rfl (fun K2 hK => ?_) AllReadyH.nil
                          go_simp
                          go_at_call 24
                          refine (unhide HEND _ ?_ ?_).mono ?_
                          case refine_1 => exact by (repeat with_reducible (first | exact unhide HBC | apply belD | apply belN | refine belB (by assumption) ?_))
                          case refine_2 => exact by (repeat with_reducible (first | exact Below.refl _ _ | apply belD | apply belN | refine belB (by assumption) ?_))
                          rintro r w8 ⟨rfl, hb8⟩
                          go_wp2_with fail
                          refine hK.out _ _ ?_ (fun hHeld2 => ?_)
                          · exact unhide SF _ (by (repeat with_reducible (first | exact unhide HBC | apply belD | apply belN | refine belB (by assumption) ?_)))
                          clear hK hHeld K2
                          try simp only [Act.put, List.setIfInBounds_toArray, List.set_cons_zero, List.set_cons_succ]
                          refine take_at (i := 11) (d := 120) (v := .bool false) rfl rfl (by kernel_rfl) (by kernel_rfl) (by kernel_rfl) (fun _ _ _ h => h) (Or.inl ⟨by rfl, ?yd11⟩) (by assumption) ?rd11
                          case yd11 => (intro w hSw; (try dsimp only at hSw); go_simp)
                          try simp only [Act.put, List.setIfInBounds_toArray, List.set_cons_zero, List.set_cons_succ]
                          refine take_at (i := 12) (d := 121) (v := ?vd12) rfl rfl (by kernel_rfl) (by kernel_rfl) (by kernel_rfl) (fun _ _ _ h => h) (Or.inl ⟨by rfl, ?yd12⟩) (by assumption) ?rd12
                          case yd12 => (intro w hSw; (try dsimp only at hSw); go_simp; (try with_reducible rfl))
                          try simp only [Act.put, List.setIfInBounds_toArray, List.set_cons_zero, List.set_cons_succ]
                          refine take_at (i := 13) (d := 122) (v := ?vd13) rfl rfl (by kernel_rfl) (by kernel_rfl) (by kernel_rfl) (fun _ _ _ h => h) (Or.inl ⟨by rfl, ?yd13⟩) (by assumption) ?rd13
                          case yd13 => (intro w hSw; (try dsimp only at hSw); go_simp; (try with_reducible rfl))
                          try simp only [Act.put, List.setIfInBounds_toArray, List.set_cons_zero, List.set_cons_succ]
                          refine take_at (i := 14) (d := 123) (v := undef) rfl rfl (by kernel_rfl) (by kernel_rfl) (by kernel_rfl) (fun _ _ _ h => h) (Or.inr ⟨by rfl, rfl⟩) (by assumption) ?_
                          try simp only [Act.put, List.setIfInBounds_toArray, List.set_cons_zero, List.set_cons_succ]
                          refine take_at (i := 15) (d := 124) (v := undef) rfl rfl (by kernel_rfl) (by kernel_rfl) (by kernel_rfl) (fun _ _ _ h => h) (Or.inr ⟨by rfl, rfl⟩) (by assumption) ?_
                          try simp only [Act.put, List.setIfInBounds_toArray, List.set_cons_zero, List.set_cons_succ]
                          refine take_at (i := 16) (d := 125) (v := undef) rfl rfl (by kernel_rfl) (by kernel_rfl) (by kernel_rfl) (fun _ _ _ h => h) (Or.inr ⟨by rfl, rfl⟩) (by assumption) ?_
                          try simp only [Act.put, List.setIfInBounds_toArray, List.set_cons_zero, List.set_cons_succ]
                          refine take_at (i := 17) (d := 126) (v := undef) rfl rfl (by kernel_rfl) (by kernel_rfl) (by kernel_rfl) (fun _ _ _ h => h) (Or.inr ⟨by rfl, rfl⟩) (by assumption) ?_
                          try simp only [Act.put, List.setIfInBounds_toArray, List.set_cons_zero, List.set_cons_succ]
                          refine take_at (i := 18) (d := 127) (v := undef) rfl rfl (by kernel_rfl) (by kernel_rfl) (by kernel_rfl) (fun _ _ _ h => h) (Or.inr ⟨by rfl, rfl⟩) (by assumption) ?_
                          try simp only [Act.put, List.setIfInBounds_toArray, List.set_cons_zero, List.set_cons_succ]
                          refine take_at (i := 19) (d := 128) (v := undef) rfl rfl (by kernel_rfl) (by kernel_rfl) (by kernel_rfl) (fun _ _ _ h => h) (Or.inr ⟨by rfl, rfl⟩) (by assumption) ?_
                          try simp only [Act.put, List.setIfInBounds_toArray, List.set_cons_zero, List.set_cons_succ]
                          refine take_at (i := 20) (d := 129) (v := undef) rfl rfl (by kernel_rfl) (by kernel_rfl) (by kernel_rfl) (fun _ _ _ h => h) (Or.inr ⟨by rfl, rfl⟩) (by assumption) ?_
                          try simp only [Act.put, List.setIfInBounds_toArray, List.set_cons_zero, List.set_cons_succ]
                          refine take_at (i := 21) (d := 130) (v := undef) rfl rfl (by kernel_rfl) (by kernel_rfl) (by kernel_rfl) (fun _ _ _ h => h) (Or.inr ⟨by rfl, rfl⟩) (by assumption) ?_
                          try simp only [Act.put, List.setIfInBounds_toArray, List.set_cons_zero, List.set_cons_succ]
                          refine take_at (i := 22) (d := 131) (v := undef) rfl rfl (by kernel_rfl) (by kernel_rfl) (by kernel_rfl) (fun _ _ _ h => h) (Or.inr ⟨by rfl, rfl⟩) (by assumption) ?_
                          try simp only [Act.put, List.setIfInBounds_toArray, List.set_cons_zero, List.set_cons_succ]
                          refine take_at (i := 23) (d := 132) (v := undef) rfl rfl (by kernel_rfl) (by kernel_rfl) (by kernel_rfl) (fun _ _ _ h => h) (Or.inr ⟨by rfl, rfl⟩) (by assumption) ?_
                          try simp only [Act.put, List.setIfInBounds_toArray, List.set_cons_zero, List.set_cons_succ]
                          refine take_at (i := 24) (d := 133) (v := undef) rfl rfl (by kernel_rfl) (by kernel_rfl) (by kernel_rfl) (fun _ _ _ h => h) (Or.inr ⟨by rfl, rfl⟩) (by assumption) ?_
                          try simp only [Act.put, List.setIfInBounds_toArray, List.set_cons_zero, List.set_cons_succ]
                          refine take_at (i := 25) (d := 134) (v := undef) rfl rfl (by kernel_rfl) (by kernel_rfl) (by kernel_rfl) (fun _ _ _ h => h) (Or.inr ⟨by rfl, rfl⟩) (by assumption) ?_
                          try simp only [Act.put, List.setIfInBounds_toArray, List.set_cons_zero, List.set_cons_succ]
                          refine take_at (i := 26) (d := 135) (v := undef) rfl rfl (by kernel_rfl) (by kernel_rfl) (by kernel_rfl) (fun _ _ _ h => h) (Or.inr ⟨by rfl, rfl⟩) (by assumption) ?_
                          try simp only [Act.put, List.setIfInBounds_toArray, List.set_cons_zero, List.set_cons_succ]
                          refine take_at (i := 27) (d := 136) (v := ?vd27) rfl rfl (by kernel_rfl) (by kernel_rfl) (by kernel_rfl) (fun _ _ _ h => h) (Or.inl ⟨by rfl, ?yd27⟩) (by assumption) ?rd27
                          case yd27 => (intro w hSw; (try dsimp only at hSw); go_simp; (try with_reducible rfl))
                          try simp only [Act.put, List.setIfInBounds_toArray, List.set_cons_zero, List.set_cons_succ]
                          refine wpAnyH_done (by kernel_rfl) ?_ _
                          go_wp2_with fail
                          go_meet
                          case rel => exact ⟨rfl, by (repeat with_reducible (first | exact unhide HBC | apply belD | apply belN | refine belB (by assumption) ?_)), by (repeat with_reducible (first | exact Below.refl _ _ | apply belD | apply belN | refine belB (by assumption) ?_))⟩
                        case rest =>
                          obtain ⟨rfl, hbd, hbcd⟩ := hcut
                          have HBD := hide hbd
                          clear hbd hbcd s0 s1 s2 s3 s4 s5
                          go_wp2_with fail
                          go_roundg (M + 1 - (k + 1))
                          case measure => exact unhide HGK
                          case rel => exact ⟨k + 1, bi, en, by omega, by omega, rfl, rfl, rfl, by go_num, HBN, unhide HBD⟩
                · have hATk : A.take k = A.take M := by
                    have hl : AL.length = min (M + 1) A.length := by rw [unhide HAL, List.length_take]
                    by_cases hkM : k = M
                    · rw [hkM]
                    · have hAk : A.length ≤ k := by omega
                      rw [List.take_of_length_le hAk, List.take_of_length_le (by omega)]
                  have hmore : decide (M < A.length) = !decide (AL.length ≤ M) := by
                    have hl : AL.length = min (M + 1) A.length := by rw [unhide HAL, List.length_take]
                    by_cases h : M < A.length
                    · have h' : ¬ AL.length ≤ M := by omega
                      simp [h, h']
                    · have h' : AL.length ≤ M := by omega
                      simp [h, h']
                  have hbs := unhide HBS
                  unfold BSt at hbs
                  rw [hATk] at hbs
                  have HWW : Hid (∀ w', Below w6.heap.size w6 w' → Below w.heap.size w w') := fun w' hb => belB (belB hb (unhide HB6)) (unhide HB3)
                  have HFB := unhide HFA
                  rw [hmore] at HFB
                  have HFC := hide HFB
                  have hkk : ¬ ((k : Int) < (AL.length : Int) ∧ (k : Int) < (M : Int)) := fun h => hlk ⟨by omega, by omega⟩
                  clear HFB HFA HBS hATk hmore hlk
                  go_upto_region 17 with fail
                  go_cut [97] (fun s97 wd => s97 = .bool false ∧ Below w6.heap.size w6 wd)
                  case first =>
                    by_cases hka : (k : Int) < (AL.length : Int)
                    · have hkM : ¬ (k : Int) < (M : Int) := fun h => hkk ⟨hka, h⟩
                      clear hkk
                      go_wp2_with fail
                      go_meet
                      case rel => exact ⟨by simp, unhide HBE⟩
                    · clear hkk
                      go_wp2_with fail
                      go_meet
                      case rel => exact ⟨by simp, unhide HBE⟩
                  case rest =>
                    obtain ⟨rfl, hbd⟩ := hcut
                    have HBD := hide hbd
                    clear hbd hkk HBE
                    cases hb : Hx.bestF J D ps (A.take M) with
                    | none =>
                      rw [hb] at hbs
                      obtain ⟨rfl, rfl⟩ := hbs
                      have hFN := unhide HFC
                      rw [hb] at hFN
                      clear hb HFC
                      by_cases hle : (AL.length : Int) ≤ (M : Int)
                      · have HF : Hid (FIN = ([], false, 7)) := by
                          show _ = _
                          have hle2 : AL.length ≤ M := by omega
                          rw [hFN]; simp [hle2]
                        clear hFN
                        go_wp2_with fail
                        go_returns
                        exact ⟨by rw [unhide HF]; rfl, unhide HWW _ (unhide HBD)⟩
                      · have HF : Hid (FIN = ([], false, 8)) := by
                          show _ = _
                          have hle2 : ¬ AL.length ≤ M := by omega
                          rw [hFN]; simp [hle2]
                        clear hFN
                        go_wp2_with fail
                        go_returns
                        exact ⟨by rw [unhide HF]; rfl, unhide HWW _ (unhide HBD)⟩
                    | some B =>
                      rw [hb] at hbs
                      obtain ⟨b, hbk, rfl, hbA, rfl⟩ := hbs
                      have HF : Hid (FIN = (Hx.writeF J ps.length (Hx.pairs (B.o.map (Hx.turnOfIdx ps)) B.f), decide (AL.length ≤ M), 0)) := by
                        show _ = _
                        have hFN := unhide HFC
                        rw [hb] at hFN
                        rw [hFN]
                        simp only [Bool.not_not]
                      have hcand := (Hx.bestF_mem J D ps (A.take M) B hb).2
                      clear hb HFC
                      have hka : b < AL.length := by omega
                      obtain ⟨o, ho⟩ : ∃ o, o = B.o := ⟨_, rfl⟩
                      obtain ⟨f, hf⟩ : ∃ f, f = B.f := ⟨_, rfl⟩
                      obtain ⟨en, hen⟩ : ∃ en, en = B.e := ⟨_, rfl⟩
                      rw [← ho, ← hf, ← hen] at hcand
                      rw [← ho] at hbA
                      rw [← ho, ← hf] at HF
                      rw [← hen]
                      clear ho hf hen
                      have hoAL : AL[b]? = some o := by rw [unhide HAL, List.getElem?_take, if_pos (by omega)]; exact hbA
                      obtain ⟨hord, hoin⟩ := unhide HOF o (List.mem_of_getElem? hbA)
                      have hon : o.length = n := by rw [hord.len, ← unhide HL, ← unhide HLN]
                      have hln : (Hx.labs ps).length = n := by rw [← unhide HL, ← unhide HLN]
                      obtain ⟨vs, hrowA, hel⟩ := unhide HORDS
                      obtain ⟨gall, capa2, e, _, _⟩ := own_pos hrowA (by omega)
                      cases e
                      obtain ⟨u, hu, huo⟩ := hel b o hoAL
                      obtain ⟨go, capo, rfl, _, hgo⟩ := own_pos huo (by omega)
                      have hsA : w6.cell? ⟨gall, b, none⟩ = some (.slice (some ⟨go, 0, none⟩) n capo) := by
                        rw [hrowA.cellAt b (by omega), hu, hon]
                      have HUO : Hid (w6.ownsRow 0 3 1 (.slice (some ⟨go, 0, none⟩) n capo) o.length (ints (nats o))) := by
                        have h1 := huo
                        rw [hon] at h1
                        show World.ownsRow _ _ _ _ _ _ _
                        rw [hon]; exact h1
                      have HTM : Hid (∀ w', Below w6.heap.size w6 w' → Calls Tryz.prog 23 #[.agg #[.int .i64 (J : Int), .int .i64 (K : Int), .int .i64 (D : Int), .slice (some ⟨gs, 0, none⟩) n cap, .int .i64 (pl : Int)], .slice (some ⟨go, 0, none⟩) n capo] w' fun e w2 => ∃ tv ok, e = .returned (.tuple #[tv, .bool ok]) ∧ Below w'.heap.size w' w2 ∧ TmR J ps o tv ok w2) := fun w' hb => by
                        have hst := unhide HSTP w' (belB hb (unhide HB6))
                        rw [unhide HL] at hst
                        exact rtimes_any (unhide HG) (pl : Int) _ _ o w' hst (own_below (unhide HUO) hb) hord
                      have SF : Hid (∀ w', Below w6.heap.size w6 w' → (w'.cell? ⟨pb, 0, none⟩ = some (.int .i64 (J : Int)) ∧ w'.cell? ⟨pb, 1, none⟩ = some (.int .i64 (K : Int)) ∧ w'.cell? ⟨pb, 2, none⟩ = some (.int .i64 (D : Int)) ∧ w'.cell? ⟨pb, 3, none⟩ = some (.slice (some ⟨gs, 0, none⟩) n cap) ∧ w'.cell? ⟨pb, 4, none⟩ = some (.int .i64 (pl : Int)) ∧ w'.cell? ⟨gall, b, none⟩ = some (.slice (some ⟨go, 0, none⟩) n capo))) := fun w' hb => by
                        have hbw := belB hb (unhide HB6)
                        exact ⟨cBel hbw (blk_cell (unhide HPB) 0), cBel hbw (blk_cell (unhide HPB) 1), cBel hbw (blk_cell (unhide HPB) 2), cBel hbw (blk_cell (unhide HPB) 3), cBel hbw (blk_cell (unhide HPB) 4), cBel hb hsA⟩
                      have HORDP := hide hord
                      have HOIN := hide hoin
                      have HON := hide hon
                      have HCAND := hide hcand
                      have HLB := hide hln
                      obtain ⟨s0, s1, s2, s3, s4, s5⟩ := unhide SF _ (unhide HBD)
                      have hbI : (b : Int) < (AL.length : Int) := by omega
                      have hb0 : (0 : Int) ≤ (b : Int) := by omega
                      clear hoAL hbA hord hoin hon hrowA hel hu huo hsA hka hcand hbk hk1 hk2 hln
                      go_upto_region 24 with fail
                      go_cut [19, 20] (fun s19 s20 wd => ∃ ok, s20 = .bool ok ∧ TmR J ps o s19 ok wd ∧ Below w6.heap.size w6 wd)
                      case first =>
                        go_region_held3 (fun w' => w'.cell? ⟨pb, 0, none⟩ = some (.int .i64 (J : Int)) ∧ w'.cell? ⟨pb, 1, none⟩ = some (.int .i64 (K : Int)) ∧ w'.cell? ⟨pb, 2, none⟩ = some (.int .i64 (D : Int)) ∧ w'.cell? ⟨pb, 3, none⟩ = some (.slice (some ⟨gs, 0, none⟩) n cap) ∧ w'.cell? ⟨pb, 4, none⟩ = some (.int .i64 (pl : Int)) ∧ w'.cell? ⟨gall, b, none⟩ = some (.slice (some ⟨go, 0, none⟩) n capo)) (exact unhide SF _ (by (repeat with_reducible (first | exact unhide HBD | apply belD | apply belN | refine belB (by assumption) ?_))))
                          (first
                            | (go_at_call 23; refine (unhide HTM _ ?_).mono ?_; (repeat with_reducible (first | exact unhide HBD | apply belD | apply belN | refine belB (by assumption) ?_)); rintro r w8 ⟨tv, okb, rfl, hb8, ht8⟩))
                        all_goals
                          go_wp2_with fail
                          go_meet
                          case rel =>
                            refine ⟨_, rfl, ?_, ?_⟩
                            · (repeat with_reducible (first | assumption | apply TmR.drewN))
                            · (repeat with_reducible (first | exact unhide HBD | apply belD | apply belN | refine belB (by assumption) ?_))
                      case rest =>
                        obtain ⟨okb, rfl, htm, hbc⟩ := hcut
                        have HBC := hide hbc
                        clear hbc HBD s0 s1 s2 s3 s4 s5 HTM
                        have h1 := (Hx.cand_some (unhide HCAND)).1
                        rcases htm with ⟨_, _, hno⟩ | ⟨rfl, gt, f2, rfl, hyes, hgt, hcs, heq⟩
                        · rw [h1] at hno; cases hno
                        · rw [h1] at hyes
                          cases hyes
                          clear h1
                          have HWR : Hid (∀ w', Below w6.heap.size w6 w' → Below wc.heap.size wc w' → Calls Tryz.prog 25 #[.agg #[.int .i64 (J : Int), .int .i64 (K : Int), .int .i64 (D : Int), .slice (some ⟨gs, 0, none⟩) n cap, .int .i64 (pl : Int)], .slice (some ⟨go, 0, none⟩) n capo, .slice (some ⟨gt, 0, none⟩) n (n + 1)] w' fun e w2 => e = .returned (.string ⟨(Hx.writeF J ps.length (Hx.pairs (o.map (Hx.turnOfIdx ps)) f)).toArray⟩) ∧ Below w'.heap.size w' w2) := fun w' hb hbc => by
                            have hst := unhide HSTP w' (belB hb (unhide HB6))
                            rw [unhide HL, ← unhide HLB] at hst
                            have hu := own_below (unhide HUO) hb
                            rw [← unhide HLB] at hu
                            rw [← unhide HLB]
                            exact rwrite_any (unhide HG) (pl : Int) gs cap go capo gt _ o f en w' hst hu (unhide HORDP) (unhide HOIN) (unhide HCAND) (Nat.lt_of_lt_of_le hgt hbc.size) (fun j hj => ⟨cBel hbc (hcs j hj).1, (hcs j hj).2⟩) heq
                          rw [unhide HLB]
                          clear hgt hcs heq
                          obtain ⟨s0, s1, s2, s3, s4, s5⟩ := unhide SF _ (unhide HBC)
                          obtain ⟨WB, hWB⟩ : ∃ WB, WB = Hx.writeF J ps.length (Hx.pairs (o.map (Hx.turnOfIdx ps)) f) := ⟨_, rfl⟩
                          rw [← hWB] at HWR HF
                          clear hWB
                          go_upto_region 25 with fail
                          go_cut [4, 5, 6] (fun s4 s5 s6 wd => s4 = .string ⟨WB.toArray⟩ ∧ s5 = .bool (decide (AL.length ≤ M)) ∧ s6 = .int .i64 0 ∧ Below w6.heap.size w6 wd)
                          case first =>
                            go_region_held3 (fun w' => w'.cell? ⟨pb, 0, none⟩ = some (.int .i64 (J : Int)) ∧ w'.cell? ⟨pb, 1, none⟩ = some (.int .i64 (K : Int)) ∧ w'.cell? ⟨pb, 2, none⟩ = some (.int .i64 (D : Int)) ∧ w'.cell? ⟨pb, 3, none⟩ = some (.slice (some ⟨gs, 0, none⟩) n cap) ∧ w'.cell? ⟨pb, 4, none⟩ = some (.int .i64 (pl : Int)) ∧ w'.cell? ⟨gall, b, none⟩ = some (.slice (some ⟨go, 0, none⟩) n capo)) (exact unhide SF _ (by (repeat with_reducible (first | exact unhide HBC | apply belD | apply belN | refine belB (by assumption) ?_))))
                              (first
                                | (go_at_call 25; refine (unhide HWR _ ?_ ?_).mono ?_; (repeat with_reducible (first | exact unhide HBC | apply belD | apply belN | refine belB (by assumption) ?_)); (repeat with_reducible (first | exact Below.refl _ _ | apply belD | apply belN | refine belB (by assumption) ?_)); rintro r w8 ⟨rfl, hb8⟩))
                            all_goals
                              go_wp2_with fail
                              go_meet
                              case rel => exact ⟨rfl, rfl, rfl, by (repeat with_reducible (first | exact unhide HBC | apply belD | apply belN | refine belB (by assumption) ?_))⟩
                          case rest =>
                            obtain ⟨rfl, rfl, rfl, hbe⟩ := hcut
                            have HBE := hide hbe
                            clear hbe s0 s1 s2 s3 s4 s5
                            go_wp2_with fail
                            go_returns
                            exact ⟨by rw [unhide HF]; rfl, unhide HWW _ (unhide HBE)⟩
  · have HF : Hid (FIN = ([], false, (ce : Int))) := by show _ = _; rw [hFIN, Hx.planF, ← hce, if_pos hc]
    have hneb : ((ce : Int) != 0) = true := by simpa using hc
    clear hFIN hc hce
    go_wp2_with fail
    go_returns
    exact ⟨by rw [unhide HF]; rfl, unhide HB1⟩

end Go.Proofs.YtppcnlkhdgmaiabGreatDoor
