/- What the document's Write does: the timetable of an order. -/
import Derived.Test.YtppcnlkhdgmaiabGreatDoorCPxB
import Derived.Test.YtppcnlkhdgmaiabGreatDoorCTmA
import Derived.Test.YtppcnlkhdgmaiabGreatDoorCRrC
namespace Go.Proofs.YtppcnlkhdgmaiabGreatDoor
open Go.RowKit

/-- One more than the place of each plate. -/
def Hx.inOf (st : List Int) : Nat → Nat := fun p => (st.getD p (-1) + 1).toNat
theorem Hx.inOf_start (n : Nat) : Hx.inOf (List.replicate n (-1)) = fun _ => 0 := by
  funext p
  unfold inOf
  rw [List.getD_eq_getElem?_getD, List.getElem?_replicate]
  split <;> rfl
theorem Hx.inOf_set {st : List Int} {p : Nat} (hp : p < st.length) (z : Int) (m : Nat) (hz : z + 1 = (m : Int)) : Hx.inOf (st.set p z) = fun q => if q = p then m else Hx.inOf st q := by
  funext q
  unfold inOf
  rw [List.getD_eq_getElem?_getD, List.getElem?_set, List.getD_eq_getElem?_getD]
  by_cases e : p = q
  · subst e; simp [hp]; omega
  · rw [if_neg e, if_neg (fun h => e h.symm)]
theorem Hx.inOf_at {n : Nat} {st : List Int} (h : Hx.StOk n st) {p f : Nat} : Hx.inOf st p = f + 1 ↔ st.getD p (-1) = (f : Int) := by
  unfold inOf
  have hb : -1 ≤ st.getD p (-1) := by
    rw [List.getD_eq_getElem?_getD]
    cases hp : st[p]? with
    | none => simp
    | some z => exact (h.2 z (List.mem_of_getElem? hp)).1
  omega
theorem Hx.has_at {st : List Int} {p : Nat} {z : Int} (h : st.getD p (-1) = z) (hz : 0 ≤ z) : st.contains z = true := by
  rw [List.getD_eq_getElem?_getD] at h
  cases hp : st[p]? with
  | none => rw [hp] at h; simp at h; omega
  | some y =>
    rw [hp] at h
    simp at h
    subst h
    simpa using List.mem_of_getElem? hp
theorem Hx.not_has {st : List Int} {z : Int} (hl : st.length ≤ 26) (h : ∀ p, p < 26 → st.getD p (-1) ≠ z) : st.contains z = false := by
  cases hc : st.contains z with
  | false => rfl
  | true =>
    have : z ∈ st := by simpa using hc
    obtain ⟨i, hi, e⟩ := List.mem_iff_getElem.1 this
    refine absurd ?_ (h i (by omega))
    rw [List.getD_eq_getElem?_getD, List.getElem?_eq_getElem hi]
    exact e
theorem Hx.low_is {st : List Int} {f : Nat} (h1 : ∀ j : Nat, j < f → st.contains (j : Int) = true) (h2 : st.contains (f : Int) = false) : Hx.lowF st = f := by
  obtain ⟨a, b, _⟩ := Hx.lowF_spec st
  rcases Nat.lt_trichotomy (Hx.lowF st) f with h | h | h
  · rw [h1 _ h] at b; cases b
  · exact h
  · rw [a _ h] at h2; cases h2

theorem A26.below {w w' : World} {b : Nat} {f : Nat → Nat} (hb : Below w.heap.size w w') (h : A26 w b f) : A26 w' b f := by
  obtain ⟨a, h1, h2⟩ := h
  exact ⟨a, bBel hb h1, h2⟩

theorem dec_bel (n : Nat) (w : World) (hn : n ≤ 1000000) (ni : Int) (hni : ni = (n : Int)) : Calls Tryz.prog 36 #[.int .i64 ni] w fun e w' => e = .returned (.string ⟨(Lib.itoa (n : Int)).toArray⟩) ∧ Below w.heap.size w w' := by
  refine (dec_any n w hn ni hni).mono ?_
  rintro e w' ⟨rfl, rfl⟩
  exact ⟨rfl, Below.refl _ _⟩
theorem dec_gen (z : Int) (w : World) (h0 : 0 ≤ z) (h1 : z ≤ 1000000) : Calls Tryz.prog 36 #[.int .i64 z] w fun e w' => e = .returned (.string ⟨(Lib.itoa z).toArray⟩) ∧ Below w.heap.size w w' := by
  have e1 : z = (z.toNat : Int) := by omega
  rw [e1]; exact dec_bel z.toNat w (by omega) _ rfl
theorem A26.drew {w : World} {b : Nat} {f : Nat → Nat} (h : A26 w b f) : A26 w.drew b f := h
theorem A26.drewN {w : World} {b : Nat} {f : Nat → Nat} (n : Nat) (h : A26 w b f) : A26 (w.drewN n) b f := h
theorem A26.other {w : World} {b g j : Nat} {f : Nat → Nat} {v : Value} (hne : b ≠ g) (h : A26 w b f) : A26 (w.setCell ⟨g, j, none⟩ v) b f := by
  obtain ⟨a, h1, h2⟩ := h
  exact ⟨a, blk_set_other h1 hne _ _, h2⟩

set_option maxRecDepth 100000 in
set_option maxHeartbeats 8000000 in
theorem refwrite_any (J K D : Nat) (pl : Int) (gs cap go capo gt ct m : Nat) (L : List Hx.Lst) (o : List Nat) (t : Nat → Int) (w : World) (hS : w.ownsRow 0 53 10 (.slice (some ⟨gs, 0, none⟩) L.length cap) L.length (lstsCells L))
    (ho : w.ownsRow 0 3 1 (.slice (some ⟨go, 0, none⟩) L.length capo) L.length (ints (nats o))) (hlen : o.length = L.length) (hin : ∀ i ∈ o, i < L.length) (_hgt : gt < w.heap.size) (ht : ∀ j, j < L.length → w.cell? ⟨gt, j, none⟩ = some (.int .i64 (t j)))
    (htb : ∀ j, j < L.length → 0 ≤ t j ∧ t j ≤ 1000000) (hL9 : L.length ≤ 100) (hpos : 0 < L.length) (hJ : J < 10) (hm : m ≤ 26) (X : List (Hx.Trn × Int))
    (hX : ∀ (i a : Nat) (y : Hx.Lst), o[i]? = some a → L[a]? = some y → X[i]? = some ((⟨y.x, y.pl, y.no, Hx.restAfter L a⟩ : Hx.Trn), t a)) (hXl : X.length = o.length) (hsm : ∀ p ∈ X, Hx.TSm m p.1)
    (hrest : ∀ i p, X[i]? = some p → p.1.x.rest = true → 0 ≤ (Hx.wSt (X.take i) (List.replicate m (-1))).getD p.1.pl 0) :
    Calls Tryz.prog 25 #[.agg #[.int .i64 (J : Int), .int .i64 (K : Int), .int .i64 (D : Int), .slice (some ⟨gs, 0, none⟩) L.length cap, .int .i64 pl], .slice (some ⟨go, 0, none⟩) L.length capo, .slice (some ⟨gt, 0, none⟩) L.length ct] w
      fun e w' => e = .returned (.string ⟨(Hx.writeF J m X).toArray⟩) ∧ Below w.heap.size w w' := by
  obtain ⟨n, hn⟩ : ∃ n, n = L.length := ⟨_, rfl⟩
  have hgs := (hS.lt gs rfl).2
  have hgo := (ho.lt go rfl).2
  have HB0 := hide (belA (.cells #[.int .i64 (J : Int), .int .i64 (K : Int), .int .i64 (D : Int), .slice (some ⟨gs, 0, none⟩) L.length cap, .int .i64 pl] 49) (Below.refl w.heap.size w))
  have HX0 := hide (blk_new w #[.int .i64 (J : Int), .int .i64 (K : Int), .int .i64 (D : Int), .slice (some ⟨gs, 0, none⟩) L.length cap, .int .i64 pl] 49)
  have HS := hide (own_below hS (unhide HB0))
  have HO := hide (own_below ho (unhide HB0))
  have HT := hide (fun j hj => cBel (unhide HB0) (ht j hj))
  have HTB := hide htb
  have HIN := hide hin
  have HX := hide hX
  have HSM := hide hsm
  have HRS := hide hrest
  have HXL := hide hXl
  have HLEN := hide hlen
  clear hS ho hlen hin ht htb hX hXl hsm hrest
  go_enter Tryz.func25, Tryz.ntmps25
  go_upto_region 1 with fail
  generalize w.alloc (.cells #[.int .i64 (J : Int), .int .i64 (K : Int), .int .i64 (D : Int), .slice (some ⟨gs, 0, none⟩) L.length cap, .int .i64 pl] 49) = W at *
  rw [← hn] at HX0 HO hpos hL9 ⊢
  have HLN := hide hn
  clear hn
  have c0 : W.cell? ⟨w.heap.size, 0, none⟩ = some (.int .i64 (J : Int)) := blk_cell (unhide HX0) 0
  have lJ : (Lib.itoa (J : Int)).length ≤ 21 := itoa_le (by omega) (by omega)
  have n1 : ¬ 9223372036854775807 < 1 + (Lib.itoa (J : Int)).length := by omega
  go_wp2_with fail
  refine (dec_any J W (by omega) _ rfl).mono ?_
  rintro e w1 ⟨rfl, rfl⟩
  have HA0 := hide (A26.init w1)
  have HBE0 := hide (belA (.cells #[.int .i64 0, .int .i64 0, .int .i64 0, .int .i64 0, .int .i64 0, .int .i64 0, .int .i64 0, .int .i64 0, .int .i64 0, .int .i64 0, .int .i64 0, .int .i64 0, .int .i64 0, .int .i64 0, .int .i64 0, .int .i64 0, .int .i64 0, .int .i64 0, .int .i64 0, .int .i64 0, .int .i64 0, .int .i64 0, .int .i64 0, .int .i64 0, .int .i64 0, .int .i64 0] 131) (Below.refl w1.heap.size w1))
  go_upto_region 3 with fail
  obtain ⟨ab, hab⟩ : ∃ ab, ab = w1.heap.size := ⟨_, rfl⟩
  rw [← hab] at HA0 ⊢
  have HAB := hide hab
  clear hab c0
  generalize w1.alloc (.cells #[.int .i64 0, .int .i64 0, .int .i64 0, .int .i64 0, .int .i64 0, .int .i64 0, .int .i64 0, .int .i64 0, .int .i64 0, .int .i64 0, .int .i64 0, .int .i64 0, .int .i64 0, .int .i64 0, .int .i64 0, .int .i64 0, .int .i64 0, .int .i64 0, .int .i64 0, .int .i64 0, .int .i64 0, .int .i64 0, .int .i64 0, .int .i64 0, .int .i64 0, .int .i64 0] 131) = W2 at *
  have hcat : (⟨#[106]⟩ : ByteArray) ++ ⟨(Lib.itoa (J : Int)).toArray⟩ = ⟨([106] ++ Lib.itoa (J : Int)).toArray⟩ := str1 [106] _
  rw [hcat]
  clear hcat
  have HLP : Hid (∀ i, i ≤ n → (Hx.wAll (X.take i) (List.replicate m (-1))).length ≤ 20000) := fun i hi => by
    have h1 := wAll_le (n := m) (by omega) (X.take i) _ (Hx.StOk.start m) (fun p hp => by
      have hp2 := List.mem_of_mem_take hp
      obtain ⟨k, hk, e⟩ := List.mem_iff_getElem.1 hp2
      have hXl := unhide HXL
      have hLe := unhide HLEN
      obtain ⟨a, ha⟩ : ∃ a, o[k]? = some a := ⟨_, List.getElem?_eq_getElem (by omega)⟩
      have hal := unhide HIN a (List.mem_of_getElem? ha)
      obtain ⟨y, hy⟩ : ∃ y, L[a]? = some y := ⟨_, List.getElem?_eq_getElem hal⟩
      have h2 := unhide HX k a y ha hy
      rw [List.getElem?_eq_getElem hk, e] at h2
      have h3 := unhide HTB a hal
      refine ⟨unhide HSM p hp2, ?_⟩
      cases h2
      simp only
      omega)
    rw [List.length_take] at h1
    omega
  go_wp2_with fail
  go_loopg [7, 9] n (fun gk s jj wr => ∃ i : Nat, i ≤ n ∧ gk = n - i ∧ jj = .int .i64 (i : Int) ∧ s = .string ⟨([106] ++ Lib.itoa (J : Int) ++ Hx.wAll (X.take i) (List.replicate m (-1))).toArray⟩ ∧ A26 wr ab (Hx.inOf (Hx.wSt (X.take i) (List.replicate m (-1)))) ∧ Below w1.heap.size w1 wr)
  case atStart => exact ⟨0, Nat.zero_le _, rfl, rfl, by rw [List.take_zero, Hx.wAll, List.append_nil], by rw [List.take_zero, Hx.wSt, Hx.inOf_start]; exact unhide HA0, unhide HBE0⟩
  case round =>
    clear HA0 HBE0
    obtain ⟨i, hi, rfl, rfl, rfl, ha26, hbe⟩ := hrel
    by_cases hlt : i < n
    · have hXl := unhide HXL
      have hLe := unhide HLEN
      have hLN := unhide HLN
      obtain ⟨a, ha⟩ : ∃ a, o[i]? = some a := ⟨_, List.getElem?_eq_getElem (by omega)⟩
      have hal := unhide HIN a (List.mem_of_getElem? ha)
      obtain ⟨y, hy⟩ : ∃ y, L[a]? = some y := ⟨_, List.getElem?_eq_getElem hal⟩
      have hXi := unhide HX i a y ha hy
      have hts := unhide HSM _ (List.mem_of_getElem? hXi)
      obtain ⟨T, hT⟩ : ∃ T, T = t a := ⟨_, rfl⟩
      obtain ⟨hT0, hT1⟩ := unhide HTB a hal
      rw [← hT] at hXi hT0 hT1
      obtain ⟨bg, hbg⟩ : ∃ bg, bg = Hx.restAfter L a := ⟨_, rfl⟩
      rw [← hbg] at hXi hts
      obtain ⟨tr, htr⟩ : ∃ tr : Hx.Trn, tr = ⟨y.x, y.pl, y.no, bg⟩ := ⟨_, rfl⟩
      rw [← htr] at hXi hts
      have hts : Hx.TSm m tr := hts
      obtain ⟨tx, htx⟩ : ∃ tx, tx = [106] ++ Lib.itoa (J : Int) ++ Hx.wAll (X.take i) (List.replicate m (-1)) := ⟨_, rfl⟩
      obtain ⟨st, hst⟩ : ∃ st, st = Hx.wSt (X.take i) (List.replicate m (-1)) := ⟨_, rfl⟩
      have hso : Hx.StOk m st := by rw [hst]; exact Hx.StOk.all (by omega) _ _ (Hx.StOk.start m)
      have hrs := unhide HRS i _ hXi
      rw [← hst] at hrs
      have htl : tx.length ≤ 20100 := by
        have := unhide HLP i hi
        rw [htx, List.length_append, List.length_append]
        simp only [List.length_cons, List.length_nil]
        omega
      have htk : X.take (i + 1) = X.take i ++ [(tr, T)] := by rw [List.take_add_one, hXi]; rfl
      have HTX : Hid ([106] ++ Lib.itoa (J : Int) ++ Hx.wAll (X.take (i + 1)) (List.replicate m (-1)) = tx ++ Hx.wHead tr T ++ Hx.wOut tr st ++ Hx.wIn tr (Hx.sOut tr st)) := by
        show _ = _
        rw [htk, Hx.wAll_snoc, ← hst, htx]
        simp only [List.append_assoc]
      have HST : Hid (Hx.wSt (X.take (i + 1)) (List.replicate m (-1)) = Hx.sIn tr (Hx.sOut tr st)) := by
        show _ = _
        rw [htk, Hx.wSt_snoc, ← hst]
      rw [← hst] at ha26
      rw [← htx]
      have HSO := hide hso
      have HTS := hide hts
      have HTR := hide htr
      have HRS2 : Hid (y.x.rest = true → 0 ≤ st.getD y.pl 0) := by
        intro h
        have := hrs (by rw [htr]; exact h)
        rw [htr] at this
        exact this
      have hypl : y.pl < m := by have := hts.pl; rw [htr] at this; exact this
      have hyno : y.no < 10 := by have := hts.no; rw [htr] at this; exact this
      have hylo : y.x.lo < 1000 := by have := hts.lo; rw [htr] at this; exact this
      have hyhi : y.x.hi < 1000 := by have := hts.hi; rw [htr] at this; exact this
      have hymn : y.x.mn < 1000 := by have := hts.mn; rw [htr] at this; exact this
      have hymx : y.x.mx < 1000 := by have := hts.mx; rw [htr] at this; exact this
      have HWH := hide (wHead_le hts hT0 (by omega))
      have HWO := hide (wOut_le hts hso)
      have hiI : (i : Int) < (n : Int) := by omega
      have hi0 : (0 : Int) ≤ (i : Int) := by omega
      have haI : (a : Int) < (n : Int) := by omega
      have ha0 : (0 : Int) ≤ (a : Int) := by omega
      have hgsW : gs < w1.heap.size := Nat.lt_of_lt_of_le hgs (unhide HB0).size
      have HROWS := unhide HS
      have cv : ∀ j, j < 10 → wr.cell? ⟨gs, a * 10 + j, none⟩ = (lstCells y)[j]? := fun j hj => by
        rw [hbe.cell (p := ⟨gs, a * 10 + j, none⟩) hgsW, own_lst HROWS a y hy j hj]
      have s2 : wr.cell? ⟨w.heap.size, 3, none⟩ = some (.slice (some ⟨gs, 0, none⟩) n cap) := cBel hbe (blk_cell (unhide HX0) 3)
      have HOC : Hid (∀ w', Below w1.heap.size w1 w' → w'.cell? ⟨go, i, none⟩ = some (.int .i64 (a : Int))) := fun w' hb => cBel hb (by
        rw [(unhide HO).cellAt i (by omega)]
        simp [ints, nats, ha])
      have HTC : Hid (∀ w', Below w1.heap.size w1 w' → w'.cell? ⟨gt, a, none⟩ = some (.int .i64 T)) := fun w' hb => by rw [hT]; exact cBel hb (unhide HT a hal)
      have s3 := unhide HOC wr hbe
      have v0 : wr.cell? ⟨gs, a * 10, none⟩ = some (.int .i64 (y.pl : Int)) := cv 0 (by omega)
      have v1 : wr.cell? ⟨gs, a * 10 + 1, none⟩ = some (.int .i64 (y.no : Int)) := cv 1 (by omega)
      have v2 : wr.cell? ⟨gs, a * 10 + 2, none⟩ = some (.int .i64 (y.x.lo : Int)) := cv 2 (by omega)
      have v3 : wr.cell? ⟨gs, a * 10 + 3, none⟩ = some (.int .i64 (y.x.hi : Int)) := cv 3 (by omega)
      have v4 : wr.cell? ⟨gs, a * 10 + 4, none⟩ = some (.bool y.x.rest) := cv 4 (by omega)
      have v5 : wr.cell? ⟨gs, a * 10 + 5, none⟩ = some (.int .i64 (y.x.mn : Int)) := cv 5 (by omega)
      have v6 : wr.cell? ⟨gs, a * 10 + 6, none⟩ = some (.int .i64 (y.x.mx : Int)) := cv 6 (by omega)
      have v7 : wr.cell? ⟨gs, a * 10 + 7, none⟩ = some (.int .i64 0) := cv 7 (by omega)
      have v8 : wr.cell? ⟨gs, a * 10 + 8, none⟩ = some (.int .i64 0) := cv 8 (by omega)
      have v9 : wr.cell? ⟨gs, a * 10 + 9, none⟩ = some (.int .i64 0) := cv 9 (by omega)
      have HGK : Hid (n - (i + 1) < n - i) := by show _ < _; omega
      have HNX1 : Hid (Hx.restAfter L a = bg) := hbg.symm
      have HA26 := hide ha26
      have HBE := hide hbe
      clear ha26 hbe hXi hts htr htx hst htk hso hrs cv HROWS hT hbg ha hXl hLe hLN
      go_upto_region 6 with fail
      go_cut [10] (fun s10 wc => ∃ tb, s10 = .pointer (some ⟨tb, 0, none⟩) ∧ wc.heap[tb]? = some (.cells #[.int .i64 (y.pl : Int), .int .i64 (y.no : Int), .int .i64 (y.x.lo : Int), .int .i64 (y.x.hi : Int), .bool y.x.rest, .int .i64 (y.x.mn : Int), .int .i64 (y.x.mx : Int), .int .i64 0, .int .i64 0, .int .i64 0] 53 (0, 0)) ∧ A26 wc ab (Hx.inOf st) ∧ Below w1.heap.size w1 wc)
      case first =>
        go_region_held3 (fun w' => w'.cell? ⟨w.heap.size, 3, none⟩ = some (.slice (some ⟨gs, 0, none⟩) n cap) ∧ w'.cell? ⟨go, i, none⟩ = some (.int .i64 (a : Int)) ∧ w'.cell? ⟨gs, a * 10, none⟩ = some (.int .i64 (y.pl : Int)) ∧ w'.cell? ⟨gs, a * 10 + 1, none⟩ = some (.int .i64 (y.no : Int)) ∧ w'.cell? ⟨gs, a * 10 + 2, none⟩ = some (.int .i64 (y.x.lo : Int)) ∧ w'.cell? ⟨gs, a * 10 + 3, none⟩ = some (.int .i64 (y.x.hi : Int)) ∧ w'.cell? ⟨gs, a * 10 + 4, none⟩ = some (.bool y.x.rest) ∧ w'.cell? ⟨gs, a * 10 + 5, none⟩ = some (.int .i64 (y.x.mn : Int)) ∧ w'.cell? ⟨gs, a * 10 + 6, none⟩ = some (.int .i64 (y.x.mx : Int)) ∧ w'.cell? ⟨gs, a * 10 + 7, none⟩ = some (.int .i64 0) ∧ w'.cell? ⟨gs, a * 10 + 8, none⟩ = some (.int .i64 0) ∧ w'.cell? ⟨gs, a * 10 + 9, none⟩ = some (.int .i64 0)) (refine ⟨?_, ?_, ?_, ?_, ?_, ?_, ?_, ?_, ?_, ?_, ?_, ?_⟩ <;> (repeat with_reducible (first | assumption | apply cD | apply cN | apply cA)))
          (first | fail)
        all_goals
          go_wp2_with fail
          go_meet
          case rel =>
            refine ⟨_, rfl, ?_, ?_, ?_⟩
            · (repeat (first | (refine bN _ _ ?_; simp; done) | apply bD | apply bA))
            · exact A26.below ((Below.refl _ _).alloc (Nat.le_refl _) _) ((unhide HA26).drewN _)
            · exact belA _ (below_drewN (unhide HBE) _)
      case rest =>
        obtain ⟨tb, rfl, htb, ha26, hbe⟩ := hcut
        clear s2 s3 v0 v1 v2 v3 v4 v5 v6 v7 v8 v9 HA26 HBE
        have HTB2 := hide htb
        have HA26 := hide ha26
        have HBE := hide hbe
        have SF : Hid (∀ w', Below w1.heap.size w1 w' → w'.heap[tb]? = some (.cells #[.int .i64 (y.pl : Int), .int .i64 (y.no : Int), .int .i64 (y.x.lo : Int), .int .i64 (y.x.hi : Int), .bool y.x.rest, .int .i64 (y.x.mn : Int), .int .i64 (y.x.mx : Int), .int .i64 0, .int .i64 0, .int .i64 0] 53 (0, 0)) → (w'.cell? ⟨go, i, none⟩ = some (.int .i64 (a : Int)) ∧ w'.cell? ⟨gt, a, none⟩ = some (.int .i64 T) ∧ w'.cell? ⟨tb, 0, none⟩ = some (.int .i64 (y.pl : Int)) ∧ w'.cell? ⟨tb, 1, none⟩ = some (.int .i64 (y.no : Int)) ∧ w'.cell? ⟨tb, 2, none⟩ = some (.int .i64 (y.x.lo : Int)) ∧ w'.cell? ⟨tb, 3, none⟩ = some (.int .i64 (y.x.hi : Int)) ∧ w'.cell? ⟨tb, 4, none⟩ = some (.bool y.x.rest) ∧ w'.cell? ⟨tb, 5, none⟩ = some (.int .i64 (y.x.mn : Int)) ∧ w'.cell? ⟨tb, 6, none⟩ = some (.int .i64 (y.x.mx : Int)) ∧ w'.cell? ⟨tb, 7, none⟩ = some (.int .i64 0) ∧ w'.cell? ⟨tb, 8, none⟩ = some (.int .i64 0) ∧ w'.cell? ⟨tb, 9, none⟩ = some (.int .i64 0))) := fun w' hw' htb' =>
          ⟨unhide HOC w' hw', unhide HTC w' hw', blk_cell htb' 0, blk_cell htb' 1, blk_cell htb' 2, blk_cell htb' 3, blk_cell htb' 4, blk_cell htb' 5, blk_cell htb' 6, blk_cell htb' 7, blk_cell htb' 8, blk_cell htb' 9⟩
        clear htb ha26 hbe
        go_upto_region 7 with fail
        go_cut [7] (fun s7 wd => s7 = .string ⟨(tx ++ Hx.wHead tr T).toArray⟩ ∧ wd.heap[tb]? = some (.cells #[.int .i64 (y.pl : Int), .int .i64 (y.no : Int), .int .i64 (y.x.lo : Int), .int .i64 (y.x.hi : Int), .bool y.x.rest, .int .i64 (y.x.mn : Int), .int .i64 (y.x.mx : Int), .int .i64 0, .int .i64 0, .int .i64 0] 53 (0, 0)) ∧ A26 wd ab (Hx.inOf st) ∧ Below w1.heap.size w1 wd)
        case first =>
          obtain ⟨tA, htA⟩ : ∃ tA : ByteArray, tA = ⟨tx.toArray⟩ := ⟨_, rfl⟩
          obtain ⟨nm, hnm⟩ : ∃ nm : ByteArray, nm = ⟨(Hx.nmB y.pl y.no).toArray⟩ := ⟨_, rfl⟩
          rw [← htA]
          have HNM : Hid (∀ w', Calls Tryz.prog 21 #[.agg #[.int .i64 (y.pl : Int), .int .i64 (y.no : Int), .int .i64 (y.x.lo : Int), .int .i64 (y.x.hi : Int), .bool y.x.rest, .int .i64 (y.x.mn : Int), .int .i64 (y.x.mx : Int), .int .i64 0, .int .i64 0, .int .i64 0]] w' fun e w2 => e = .returned (.string nm) ∧ Below w'.heap.size w' w2) := fun w' => by
            rw [hnm, ← nameB_nm _ _ hyno]; exact name_any y 0 0 0 w' (by omega) (by omega)
          have l0 : tA.size ≤ 20100 := by rw [htA, bsz]; exact htl
          have l1 : nm.size = 2 := by rw [hnm]; rfl
          have l2 : (Lib.itoa T).length ≤ 21 := itoa_le (by omega) (by omega)
          have l3 : (Lib.itoa (y.x.lo : Int)).length ≤ 21 := itoa_le (by omega) (by omega)
          have l4 : (Lib.itoa (y.x.hi : Int)).length ≤ 21 := itoa_le (by omega) (by omega)
          have m1 : ¬ 9223372036854775807 < tA.size + 1 := by omega
          have m2 : ¬ 9223372036854775807 < tA.size + 1 + nm.size := by omega
          have m3 : ¬ 9223372036854775807 < tA.size + 1 + nm.size + 1 := by omega
          have m4 : ¬ 9223372036854775807 < tA.size + 1 + nm.size + 1 + (Lib.itoa T).length := by omega
          have m5 : ¬ 9223372036854775807 < tA.size + 1 + nm.size + 1 + (Lib.itoa T).length + 1 := by omega
          have m6 : ¬ 9223372036854775807 < tA.size + 1 + nm.size + 1 + (Lib.itoa T).length + 1 + (Lib.itoa (y.x.lo : Int)).length := by omega
          have m7 : ¬ 9223372036854775807 < tA.size + 1 + nm.size + 1 + (Lib.itoa T).length + 1 + (Lib.itoa (y.x.lo : Int)).length + 1 := by omega
          have m8 : ¬ 9223372036854775807 < tA.size + 1 + nm.size + 1 + (Lib.itoa T).length + 1 + (Lib.itoa (y.x.lo : Int)).length + 1 + (Lib.itoa (y.x.hi : Int)).length := by omega
          have HCAT : Hid (tA ++ ⟨#[59]⟩ ++ nm ++ ⟨#[64]⟩ ++ ⟨(Lib.itoa T).toArray⟩ ++ ⟨#[43]⟩ ++ ⟨(Lib.itoa (y.x.lo : Int)).toArray⟩ ++ ⟨#[45]⟩ ++ ⟨(Lib.itoa (y.x.hi : Int)).toArray⟩ = ⟨(tx ++ Hx.wHead tr T).toArray⟩) := by
            show _ = _
            rw [htA, hnm]
            apply ByteArray.ext
            apply Array.ext'
            rw [unhide HTR]
            simp [ByteArray.data_append, Hx.wHead, Hx.bndB, Hx.nameB, Hx.nmB]
          obtain ⟨s1, s2, s3, s4, s5, s6, s7, s8, s9, s10, s11, s12⟩ := unhide SF wc (unhide HBE) (unhide HTB2)
          have lo0 : (0 : Int) ≤ (y.x.lo : Int) := by omega
          have lo1 : (y.x.lo : Int) ≤ 1000000 := by omega
          have hi0' : (0 : Int) ≤ (y.x.hi : Int) := by omega
          have hi1' : (y.x.hi : Int) ≤ 1000000 := by omega
          clear l0 l1 l2 l3 l4 htA hnm
          go_region_held3 (fun w' => w'.cell? ⟨go, i, none⟩ = some (.int .i64 (a : Int)) ∧ w'.cell? ⟨gt, a, none⟩ = some (.int .i64 T) ∧ w'.cell? ⟨tb, 0, none⟩ = some (.int .i64 (y.pl : Int)) ∧ w'.cell? ⟨tb, 1, none⟩ = some (.int .i64 (y.no : Int)) ∧ w'.cell? ⟨tb, 2, none⟩ = some (.int .i64 (y.x.lo : Int)) ∧ w'.cell? ⟨tb, 3, none⟩ = some (.int .i64 (y.x.hi : Int)) ∧ w'.cell? ⟨tb, 4, none⟩ = some (.bool y.x.rest) ∧ w'.cell? ⟨tb, 5, none⟩ = some (.int .i64 (y.x.mn : Int)) ∧ w'.cell? ⟨tb, 6, none⟩ = some (.int .i64 (y.x.mx : Int)) ∧ w'.cell? ⟨tb, 7, none⟩ = some (.int .i64 0) ∧ w'.cell? ⟨tb, 8, none⟩ = some (.int .i64 0) ∧ w'.cell? ⟨tb, 9, none⟩ = some (.int .i64 0)) (exact unhide SF _ (by (repeat with_reducible (first | exact unhide HBE | apply belD | apply belN | refine belB (by assumption) ?_))) (by (repeat with_reducible (first | exact unhide HTB2 | apply bD | apply bN' | refine bBel (by assumption) ?_))))
            (first
              | (go_at_call 21; refine (unhide HNM _).mono ?_; rintro r w5 ⟨rfl, hb5⟩)
              | (go_at_call 36; refine (dec_gen _ _ (by assumption) (by assumption)).mono ?_; rintro r w6 ⟨rfl, hb6⟩))
          all_goals
            go_wp2_with fail
            go_meet
            case rel =>
              refine ⟨by rw [unhide HCAT], ?_, ?_, ?_⟩
              · (repeat with_reducible (first | exact unhide HTB2 | apply bD | apply bN' | refine bBel (by assumption) ?_))
              · (repeat with_reducible (first | exact unhide HA26 | refine A26.below (by assumption) ?_ | apply A26.drew | apply A26.drewN))
              · (repeat with_reducible (first | exact unhide HBE | apply belD | apply belN | refine belB (by assumption) ?_))
        case rest =>
          obtain ⟨rfl, htb, ha26, hbe⟩ := hcut
          clear HTB2 HA26 HBE SF
          have c4 : wc.cell? ⟨tb, 4, none⟩ = some (.bool y.x.rest) := blk_cell htb 4
          obtain ⟨tx2, htx2⟩ : ∃ tx2, tx2 = tx ++ Hx.wHead tr T := ⟨_, rfl⟩
          have htl2 : tx2.length ≤ 20200 := by
            have := unhide HWH
            rw [htx2, List.length_append]; omega
          rw [← htx2] at HTX ⊢
          have hsl : y.pl < st.length := by rw [(unhide HSO).1]; exact hypl
          have htab : tb ≠ ab := fun e => by
            obtain ⟨arr, h1, _⟩ := ha26
            rw [e, h1] at htb
            simp at htb
          have HTB2 := hide htb
          have HA26 := hide ha26
          have HBE := hide hbe
          clear htb ha26 hbe htx2
          go_upto_if 57 with fail
          go_cut [7] (fun s7 wd => s7 = .string ⟨(tx2 ++ Hx.wOut tr st).toArray⟩ ∧ wd.heap[tb]? = some (.cells #[.int .i64 (y.pl : Int), .int .i64 (y.no : Int), .int .i64 (y.x.lo : Int), .int .i64 (y.x.hi : Int), .bool y.x.rest, .int .i64 (y.x.mn : Int), .int .i64 (y.x.mx : Int), .int .i64 0, .int .i64 0, .int .i64 0] 53 (0, 0)) ∧ A26 wd ab (Hx.inOf (Hx.sOut tr st)) ∧ Below w1.heap.size w1 wd)
          case first =>
            cases hr : y.x.rest with
            | false =>
              have HO2 : Hid (Hx.wOut tr st = [] ∧ Hx.sOut tr st = st) := by refine ⟨?_, ?_⟩ <;> rw [unhide HTR] <;> simp [Hx.wOut, Hx.sOut, hr]
              rw [hr] at c4
              clear hr
              go_wp2_with fail
              go_meet
              case rel => exact ⟨by rw [(unhide HO2).1, List.append_nil], unhide HTB2, by rw [(unhide HO2).2]; exact unhide HA26, unhide HBE⟩
            | true =>
              obtain ⟨z, hz⟩ : ∃ z, z = st.getD y.pl 0 := ⟨_, rfl⟩
              have hz0 : 0 ≤ z := by rw [hz]; exact unhide HRS2 hr
              have hz1 : z ≤ 1000 := by rw [hz]; exact ((unhide HSO).at_ y.pl).2
              obtain ⟨iv, hiv⟩ : ∃ iv, iv = Hx.inOf st y.pl := ⟨_, rfl⟩
              have hivz : (iv : Int) = z + 1 := by
                rw [hiv, hz]
                unfold Hx.inOf
                rw [List.getD_eq_getElem?_getD, List.getElem?_eq_getElem hsl, List.getD_eq_getElem?_getD, List.getElem?_eq_getElem hsl]
                simp only [Option.getD_some]
                have h1 := unhide HRS2 hr
                rw [List.getD_eq_getElem?_getD, List.getElem?_eq_getElem hsl, Option.getD_some] at h1
                omega
              have HO2 : Hid (Hx.wOut tr st = [60] ++ Lib.itoa z ++ [58] ++ (Lib.itoa (y.x.mn : Int) ++ [45] ++ Lib.itoa (y.x.mx : Int)) ∧ Hx.sOut tr st = st.set y.pl (-1)) := by
                refine ⟨?_, ?_⟩
                · rw [unhide HTR]; simp only [Hx.wOut, hr, if_true]; rw [hz]; rfl
                · rw [unhide HTR]; simp [Hx.sOut, hr]
              have hw : IntKind.i64.wrap ((iv : Int) - 1) = z := by
                rw [show (iv : Int) - 1 = z by omega]
                exact IntWalk.i64_in _ ⟨by omega, by omega⟩
              obtain ⟨tA, htA⟩ : ∃ tA : ByteArray, tA = ⟨tx2.toArray⟩ := ⟨_, rfl⟩
              rw [← htA]
              have l0 : tA.size ≤ 20200 := by rw [htA, bsz]; exact htl2
              have l2 : (Lib.itoa z).length ≤ 21 := itoa_le (by omega) (by omega)
              have l3 : (Lib.itoa (y.x.mn : Int)).length ≤ 21 := itoa_le (by omega) (by omega)
              have l4 : (Lib.itoa (y.x.mx : Int)).length ≤ 21 := itoa_le (by omega) (by omega)
              have m1 : ¬ 9223372036854775807 < tA.size + 1 := by omega
              have m2 : ¬ 9223372036854775807 < tA.size + 1 + (Lib.itoa z).length := by omega
              have m3 : ¬ 9223372036854775807 < tA.size + 1 + (Lib.itoa z).length + 1 := by omega
              have m4 : ¬ 9223372036854775807 < tA.size + 1 + (Lib.itoa z).length + 1 + (Lib.itoa (y.x.mn : Int)).length := by omega
              have m5 : ¬ 9223372036854775807 < tA.size + 1 + (Lib.itoa z).length + 1 + (Lib.itoa (y.x.mn : Int)).length + 1 := by omega
              have m6 : ¬ 9223372036854775807 < tA.size + 1 + (Lib.itoa z).length + 1 + (Lib.itoa (y.x.mn : Int)).length + 1 + (Lib.itoa (y.x.mx : Int)).length := by omega
              have HCAT : Hid (tA ++ ⟨#[60]⟩ ++ ⟨(Lib.itoa z).toArray⟩ ++ ⟨#[58]⟩ ++ ⟨(Lib.itoa (y.x.mn : Int)).toArray⟩ ++ ⟨#[45]⟩ ++ ⟨(Lib.itoa (y.x.mx : Int)).toArray⟩ = ⟨(tx2 ++ Hx.wOut tr st).toArray⟩) := by
                show _ = _
                rw [htA, (unhide HO2).1]
                apply ByteArray.ext
                apply Array.ext'
                simp [ByteArray.data_append]
              have lo0 : (0 : Int) ≤ (y.x.mn : Int) := by omega
              have lo1 : (y.x.mn : Int) ≤ 1000000 := by omega
              have hi0' : (0 : Int) ≤ (y.x.mx : Int) := by omega
              have hi1' : (y.x.mx : Int) ≤ 1000000 := by omega
              have z1' : z ≤ 1000000 := by omega
              have pl0 : (0 : Int) ≤ (y.pl : Int) := by omega
              have pl1 : (y.pl : Int) < 26 := by omega
              have SF : Hid (∀ w' : World, w'.heap[tb]? = some (.cells #[.int .i64 (y.pl : Int), .int .i64 (y.no : Int), .int .i64 (y.x.lo : Int), .int .i64 (y.x.hi : Int), .bool y.x.rest, .int .i64 (y.x.mn : Int), .int .i64 (y.x.mx : Int), .int .i64 0, .int .i64 0, .int .i64 0] 53 (0, 0)) → A26 w' ab (Hx.inOf st) → (w'.cell? ⟨tb, 0, none⟩ = some (.int .i64 (y.pl : Int)) ∧ w'.cell? ⟨ab, y.pl, none⟩ = some (.int .i64 (iv : Int)) ∧ w'.cell? ⟨tb, 5, none⟩ = some (.int .i64 (y.x.mn : Int)) ∧ w'.cell? ⟨tb, 6, none⟩ = some (.int .i64 (y.x.mx : Int)))) := fun w' h1 h2 =>
                ⟨blk_cell h1 0, by rw [hiv]; exact h2.cell (by omega), blk_cell h1 5, blk_cell h1 6⟩
              obtain ⟨s1, s2, s3, s4⟩ := unhide SF wc (unhide HTB2) (unhide HA26)
              rw [hr] at c4
              clear l0 l2 l3 l4 htA hz hr hiv hivz hz1
              go_upto_region 9 with fail
              go_cut [7] (fun s7 wd => s7 = .string ⟨(tx2 ++ Hx.wOut tr st).toArray⟩ ∧ wd.heap[tb]? = some (.cells #[.int .i64 (y.pl : Int), .int .i64 (y.no : Int), .int .i64 (y.x.lo : Int), .int .i64 (y.x.hi : Int), .bool y.x.rest, .int .i64 (y.x.mn : Int), .int .i64 (y.x.mx : Int), .int .i64 0, .int .i64 0, .int .i64 0] 53 (0, 0)) ∧ A26 wd ab (Hx.inOf st) ∧ Below w1.heap.size w1 wd)
              case first =>
                go_region_held3 (fun w' => w'.cell? ⟨tb, 0, none⟩ = some (.int .i64 (y.pl : Int)) ∧ w'.cell? ⟨ab, y.pl, none⟩ = some (.int .i64 (iv : Int)) ∧ w'.cell? ⟨tb, 5, none⟩ = some (.int .i64 (y.x.mn : Int)) ∧ w'.cell? ⟨tb, 6, none⟩ = some (.int .i64 (y.x.mx : Int))) (exact unhide SF _ (by (repeat with_reducible (first | exact unhide HTB2 | apply bD | apply bN' | refine bBel (by assumption) ?_))) (by (repeat with_reducible (first | exact unhide HA26 | refine A26.below (by assumption) ?_ | apply A26.drew | apply A26.drewN))))
                  (first
                    | (go_at_call 36; refine (dec_gen _ _ (by assumption) (by assumption)).mono ?_; rintro r w6 ⟨rfl, hb6⟩))
                all_goals
                  go_wp2_with fail
                  go_meet
                  case rel =>
                    refine ⟨by rw [unhide HCAT], ?_, ?_, ?_⟩
                    · (repeat with_reducible (first | exact unhide HTB2 | apply bD | apply bN' | refine bBel (by assumption) ?_))
                    · (repeat with_reducible (first | exact unhide HA26 | refine A26.below (by assumption) ?_ | apply A26.drew | apply A26.drewN))
                    · (repeat with_reducible (first | exact unhide HBE | apply belD | apply belN | refine belB (by assumption) ?_))
              case rest =>
                obtain ⟨rfl, htb, ha26, hbe⟩ := hcut
                have d0 : wc.cell? ⟨tb, 0, none⟩ = some (.int .i64 (y.pl : Int)) := blk_cell htb 0
                have d1 := ha26.cell (i := y.pl) (by omega)
                have fz := ha26.free
                have HB7 := hide hbe
                have HT7 := hide htb
                have HA7 := hide ha26
                clear hbe htb ha26 s1 s2 s3 s4 c4
                have hablt : w1.heap.size ≤ ab := by rw [unhide HAB]; exact Nat.le_refl _
                go_wp2_with fail
                go_meet
                case rel =>
                  refine ⟨rfl, blk_set_other (unhide HT7) htab _ _, ?_, (unhide HB7).setCell (p := ⟨ab, y.pl, none⟩) hablt _⟩
                  rw [(unhide HO2).2, Hx.inOf_set hsl (-1) 0 (by omega)]
                  exact (unhide HA7).set (i := y.pl) (by omega) 0
          case rest =>
            obtain ⟨rfl, htb, ha26, hbe⟩ := hcut
            clear HTB2 HA26 HBE c4
            obtain ⟨tx3, htx3⟩ : ∃ tx3, tx3 = tx2 ++ Hx.wOut tr st := ⟨_, rfl⟩
            obtain ⟨st2, hst2⟩ : ∃ st2, st2 = Hx.sOut tr st := ⟨_, rfl⟩
            have htl3 : tx3.length ≤ 20300 := by
              have := unhide HWO
              rw [htx3, List.length_append]; omega
            have hso2 := (unhide HSO).out tr
            rw [← hst2] at hso2 ha26 HTX HST
            rw [← htx3] at HTX ⊢
            have hsl2 : y.pl < st2.length := by rw [hso2.1]; exact hypl
            have HSO2 := hide hso2
            have e3 : wc.cell? ⟨w.heap.size, 3, none⟩ = some (.slice (some ⟨gs, 0, none⟩) n cap) := cBel hbe (blk_cell (unhide HX0) 3)
            have e1 := unhide HOC wc hbe
            have hw : IntKind.i64.wrap ((a : Int) + 1) = (a : Int) + 1 := IntWalk.i64_in _ ⟨by omega, by omega⟩
            have HROWS := unhide HS
            have hgsW : gs < w1.heap.size := Nat.lt_of_lt_of_le hgs (unhide HB0).size
            have HNB : Hid (∀ y2, L[a + 1]? = some y2 → wc.cell? ⟨gs, (a + 1) * 10 + 4, none⟩ = some (.bool y2.x.rest)) := fun y2 hy2 => by
              rw [hbe.cell (p := ⟨gs, (a + 1) * 10 + 4, none⟩) hgsW, own_lst HROWS (a + 1) y2 hy2 4 (by omega)]; rfl
            have HTB2 := hide htb
            have HA26 := hide ha26
            have HBE := hide hbe
            clear htb ha26 hbe htx3 hst2 hso2 HROWS
            go_upto_region 11 with fail
            go_cut [100] (fun s100 wd => s100 = .bool bg ∧ wd.heap[tb]? = some (.cells #[.int .i64 (y.pl : Int), .int .i64 (y.no : Int), .int .i64 (y.x.lo : Int), .int .i64 (y.x.hi : Int), .bool y.x.rest, .int .i64 (y.x.mn : Int), .int .i64 (y.x.mx : Int), .int .i64 0, .int .i64 0, .int .i64 0] 53 (0, 0)) ∧ A26 wd ab (Hx.inOf st2) ∧ Below w1.heap.size w1 wd)
            case first =>
              by_cases hl : a + 1 < n
              · have hlI : (a : Int) + 1 < (n : Int) := by omega
                have hl0 : (0 : Int) ≤ (a : Int) + 1 := by omega
                obtain ⟨y2, hy2⟩ : ∃ y2, L[a + 1]? = some y2 := ⟨_, List.getElem?_eq_getElem (by rw [← unhide HLN]; exact hl)⟩
                have hbe2 : bg = y2.x.rest := by rw [← unhide HNX1, Hx.restAfter, hy2]
                have e4 : wc.cell? ⟨gs, (a + 1) * 10 + 4, none⟩ = some (.bool bg) := by rw [hbe2]; exact unhide HNB y2 hy2
                clear hy2 hbe2
                go_quiet (fail)
                go_wp2_with fail
                go_meet
                case rel => exact ⟨rfl, unhide HTB2, (unhide HA26).drewN _, below_drewN (unhide HBE) _⟩
              · have hlI : ¬ (a : Int) + 1 < (n : Int) := by omega
                have hld : decide ((a : Int) + 1 < (n : Int)) = false := by simpa using hlI
                have hbg : bg = false := by rw [← unhide HNX1, Hx.restAfter, List.getElem?_eq_none (by rw [← unhide HLN]; omega)]
                subst hbg
                go_quiet (fail)
                go_wp2_with fail
                go_meet
                case rel => exact ⟨rfl, unhide HTB2, (unhide HA26).drewN _, below_drewN (unhide HBE) _⟩
            case rest =>
              obtain ⟨rfl, htb, ha26, hbe⟩ := hcut
              clear HTB2 HA26 HBE e1 e3 HNB hw
              have HTB2 := hide htb
              have HA26 := hide ha26
              have HBE := hide hbe
              clear htb ha26 hbe
              cases hb : bg with
              | false =>
                have HI2 : Hid (Hx.wIn tr st2 = [] ∧ Hx.sIn tr st2 = st2) := by refine ⟨?_, ?_⟩ <;> rw [unhide HTR] <;> simp [Hx.wIn, Hx.sIn, hb]
                clear hb
                go_wp2_with fail
                go_roundg (n - (i + 1))
                case measure => exact unhide HGK
                case rel => exact ⟨i + 1, by omega, rfl, by go_num, by rw [unhide HTX, (unhide HI2).1, List.append_nil], by rw [unhide HST, (unhide HI2).2]; exact unhide HA26, unhide HBE⟩
              | true =>
                obtain ⟨lw, hlw⟩ : ∃ lw, lw = Hx.lowF st2 := ⟨_, rfl⟩
                obtain ⟨p1, p2, p3⟩ := Hx.lowF_spec st2
                rw [← hlw] at p1 p2 p3
                have hlw1 : lw ≤ 26 := by have := (unhide HSO2).1; omega
                have HP1 := hide p1
                have HP2 := hide p2
                have HI2 : Hid (Hx.wIn tr st2 = [62] ++ Lib.itoa (lw : Int) ∧ Hx.sIn tr st2 = st2.set y.pl (lw : Int)) := by refine ⟨?_, ?_⟩ <;> rw [unhide HTR] <;> simp [Hx.wIn, Hx.sIn, hb, hlw]
                clear hb p1 p2 p3 hlw
                go_wp2_with fail
                go_loopg [11, 12] (27 * lw + 26) (fun gk fr aa wr => ∃ f b : Nat, f ≤ lw ∧ b ≤ 26 ∧ gk = 27 * (lw - f) + (26 - b) ∧ fr = .int .i64 ((f : Int) + 1) ∧ aa = .int .i64 (b : Int) ∧ Hid (∀ p, p < b → st2.getD p (-1) ≠ (f : Int)) ∧ wr.heap[tb]? = some (.cells #[.int .i64 (y.pl : Int), .int .i64 (y.no : Int), .int .i64 (y.x.lo : Int), .int .i64 (y.x.hi : Int), .bool y.x.rest, .int .i64 (y.x.mn : Int), .int .i64 (y.x.mx : Int), .int .i64 0, .int .i64 0, .int .i64 0] 53 (0, 0)) ∧ A26 wr ab (Hx.inOf st2) ∧ Below w1.heap.size w1 wr)
                case atStart => exact ⟨0, 0, Nat.zero_le _, Nat.zero_le _, by omega, rfl, rfl, fun p hp => absurd hp (Nat.not_lt_zero _), unhide HTB2, unhide HA26, unhide HBE⟩
                case round =>
                  clear HTB2 HA26 HBE
                  obtain ⟨f, b, hf, hb, rfl, rfl, rfl, HNE, htb, ha26, hbe⟩ := hrel
                  have HTB2 := hide htb
                  have HA26 := hide ha26
                  have HBE := hide hbe
                  by_cases hlb : b < 26
                  · have hbI : (b : Int) < 26 := by omega
                    have hb0 : (0 : Int) ≤ (b : Int) := by omega
                    obtain ⟨v, hv⟩ : ∃ v, v = Hx.inOf st2 b := ⟨_, rfl⟩
                    have cb : wr.cell? ⟨ab, b, none⟩ = some (.int .i64 (v : Int)) := by rw [hv]; exact ha26.cell hlb
                    have hiff := Hx.inOf_at (unhide HSO2) (p := b) (f := f)
                    rw [← hv] at hiff
                    by_cases hvf : v = f + 1
                    · have hq : ((v : Int) == (f : Int) + 1) = true := by rw [beq_iff_eq]; omega
                      have hst := Hx.has_at (hiff.1 hvf) (by omega)
                      have hflw : f < lw := by
                        rcases Nat.lt_or_ge f lw with h | h
                        · exact h
                        · have e : f = lw := by omega
                          rw [e, unhide HP2] at hst; cases hst
                      have HM : Hid (27 * (lw - (f + 1)) + (26 - 0) < 27 * (lw - f) + (26 - b)) := by show _ < _; omega
                      clear htb ha26 hbe hv hiff hvf hst
                      go_wp2_with fail
                      go_roundg (27 * (lw - (f + 1)) + (26 - 0))
                      case measure => exact unhide HM
                      case rel => exact ⟨f + 1, 0, by omega, Nat.zero_le _, rfl, by go_num, rfl, fun p hp => absurd hp (Nat.not_lt_zero _), unhide HTB2, unhide HA26, unhide HBE⟩
                    · have hq : ((v : Int) == (f : Int) + 1) = false := by rw [beq_eq_false_iff_ne]; omega
                      have HNE2 : Hid (∀ p, p < b + 1 → st2.getD p (-1) ≠ (f : Int)) := fun p hp e => by
                        by_cases ep : p = b
                        · subst ep; exact hvf (hiff.2 e)
                        · exact unhide HNE p (by omega) e
                      have HM : Hid (27 * (lw - f) + (26 - (b + 1)) < 27 * (lw - f) + (26 - b)) := by show _ < _; omega
                      clear htb ha26 hbe hv hiff hvf
                      go_wp2_with fail
                      go_roundg (27 * (lw - f) + (26 - (b + 1)))
                      case measure => exact unhide HM
                      case rel => exact ⟨f, b + 1, hf, by omega, rfl, rfl, by go_num, HNE2, unhide HTB2, unhide HA26, unhide HBE⟩
                  · have hbI : ¬ (b : Int) < 26 := by omega
                    have hfl : f = lw := by
                      rcases Nat.lt_or_ge f lw with h | h
                      · have h1 := unhide HP1 f h
                        rw [Hx.not_has (by have := (unhide HSO2).1; omega) (fun p hp => unhide HNE p (by omega))] at h1
                        cases h1
                      · omega
                    subst hfl
                    have d0 : wr.cell? ⟨tb, 0, none⟩ = some (.int .i64 (y.pl : Int)) := blk_cell htb 0
                    have d1 := ha26.cell (i := y.pl) (by omega)
                    have fz := ha26.free
                    have hablt : w1.heap.size ≤ ab := by rw [unhide HAB]; exact Nat.le_refl _
                    have pl0 : (0 : Int) ≤ (y.pl : Int) := by omega
                    have pl1 : (y.pl : Int) < 26 := by omega
                    have HA7 := hide (ha26.set (i := y.pl) (by omega) (f + 1))
                    have HB7 := hide (hbe.setCell (p := ⟨ab, y.pl, none⟩) hablt (.int .i64 ((f + 1 : Nat) : Int)))
                    have ef : ((f + 1 : Nat) : Int) = (f : Int) + 1 := by omega
                    rw [ef] at HA7 HB7
                    clear ef
                    obtain ⟨tA, htA⟩ : ∃ tA : ByteArray, tA = ⟨tx3.toArray⟩ := ⟨_, rfl⟩
                    have l0 : tA.size ≤ 20300 := by rw [htA, bsz]; exact htl3
                    have l2 : (Lib.itoa (f : Int)).length ≤ 21 := itoa_le (by omega) (by omega)
                    have m1 : ¬ 9223372036854775807 < tA.size + 1 := by omega
                    have m2 : ¬ 9223372036854775807 < tA.size + 1 + (Lib.itoa (f : Int)).length := by omega
                    have HCAT : Hid (tA ++ ⟨#[62]⟩ ++ ⟨(Lib.itoa (f : Int)).toArray⟩ = ⟨(tx3 ++ Hx.wIn tr st2).toArray⟩) := by
                      show _ = _
                      rw [htA, (unhide HI2).1]
                      apply ByteArray.ext
                      apply Array.ext'
                      simp [ByteArray.data_append]
                    rw [← htA]
                    clear htb ha26 hbe HNE htA l0 l2 HA26 HBE HTB2
                    go_wp2_with fail
                    refine (dec_gen _ _ (by omega) (by omega)).mono ?_
                    rintro r w8 ⟨rfl, hb8⟩
                    have HA8 := hide (A26.below hb8 (unhide HA7))
                    have HB8 := hide (belB hb8 (unhide HB7))
                    clear hb8 HA7 HB7
                    go_wp2_with fail
                    go_roundg (n - (i + 1))
                    case measure => exact unhide HGK
                    case rel =>
                      refine ⟨i + 1, by omega, rfl, by go_num, by rw [unhide HTX, unhide HCAT], ?_, unhide HB8⟩
                      rw [unhide HST, (unhide HI2).2, Hx.inOf_set hsl2 (f : Int) (f + 1) (by omega)]
                      exact unhide HA8
    · have hiI : ¬ (i : Int) < (n : Int) := by omega
      have hie : X.take i = X := List.take_of_length_le (by have h1 := unhide HXL; have h2 := unhide HLEN; have h3 := unhide HLN; omega)
      have HFIN : Hid ([106] ++ Lib.itoa (J : Int) ++ Hx.wAll (X.take i) (List.replicate m (-1)) = Hx.writeF J m X) := by show _ = _; rw [hie]; rfl
      obtain ⟨tx, htx⟩ : ∃ tx, tx = [106] ++ Lib.itoa (J : Int) ++ Hx.wAll (X.take i) (List.replicate m (-1)) := ⟨_, rfl⟩
      rw [← htx] at HFIN ⊢
      have HBE := hide hbe
      clear ha26 hbe hie htx
      go_wp2_with fail
      go_returns
      exact ⟨ret_str (by rw [unhide HFIN]), (unhide HB0).trans ((unhide HBE).mono (unhide HB0).size)⟩

end Go.Proofs.YtppcnlkhdgmaiabGreatDoor
