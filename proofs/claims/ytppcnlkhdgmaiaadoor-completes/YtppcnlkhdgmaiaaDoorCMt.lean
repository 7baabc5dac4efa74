/- What the law does at a step that is a Check. What looked and Look answer: the table, or the error and its place. What the program's reader of scripts does: numbers, readScript. What hatchkeep's order answers: nothing, or an order of the plan. What the cards of laws over rows of numbers share: a row of numbers that comes in. The plain facts on what the machine comes to. What the program's readScript does. What the program's Run answers. What the program's Run answers. What the law does at a step that is a Run. What the cards of laws that run the machine share: the tables of bytes, of outcomes and of powers of ten, as a row lists them. -/
import Derived.Test.YtppcnlkhdgmaiaaDoorCPf
import Derived.Test.YtppcnlkhdgmaiaaDoorCRfF
import Derived.Test.YtppcnlkhdgmaiaaDoorCRtD
import Derived.Test.YtppcnlkhdgmaiaaDoorCRrB
import Derived.Test.YtppcnlkhdgmaiaaDoorCTb
import Derived.Deep.DeepCutAuto
import Derived.Test.YtppcnlkhdgmaiaaDoorCPz
import Derived.Test.YtppcnlkhdgmaiaaDoorCRmG
import Derived.Test.YtppcnlkhdgmaiaaDoorCRrC
namespace Go.Proofs.YtppcnlkhdgmaiaaDoor
open Go.RowKit

end Go.Proofs.YtppcnlkhdgmaiaaDoor
namespace Go.Proofs.YtppcnlkhdgmaiaaDoor
open Go.RowKit

/-- What looked answers. -/
def LkRes (s : ByteArray) (w : World) (e : Ending) (w' : World) : Prop := Below w.heap.size w w' ∧
  (((Hx.lookF s).1 ≠ 0 ∧ e = .returned (.tuple #[.agg #[.int .i64 0, .slice none 0 0], .int .i64 (Hx.lookF s).1, .int .i64 (Hx.lookF s).2])) ∨
   (Hx.lookF s = (0, 0) ∧ s.size ≤ 400 ∧ (Hx.tableF s).1.bad = false ∧ Hx.wrongF (Hx.tableF s).2 0 = (0, 0) ∧ (Hx.tableF s).2.length ≤ 401 ∧ ∃ v, e = .returned (.tuple #[.agg #[.int .i64 ((Hx.theadF s).1 : Int), v], .int .i64 0, .int .i64 0]) ∧ w'.ownsRow w.heap.size 153 11 v (Hx.tableF s).2.length (ptsCells (Hx.tableF s).2)))

theorem wrongF_cases (l : List Hx.TStp) (k : Nat) : Hx.wrongF l k = (0, 0) ∨ ∃ j : Nat, Hx.wrongF l k = (9, (j : Int)) := by
  induction k using Hx.wrongF.induct (l := l) with
  | case1 k hk hr ih => rw [Hx.wrongF_step hk, if_pos hr]; exact ih
  | case2 k hk hr => rw [Hx.wrongF_step hk, if_neg hr]; exact Or.inr ⟨k, rfl⟩
  | case3 k hk => rw [Hx.wrongF_end hk]; exact Or.inl rfl

theorem own_set_low {w : World} {base : Nat} {e : TypeId} {size : Nat} {v : Value} {n : Nat} {xs : List Value} (h : w.ownsRow base e size v n xs) {k : Nat} (hk : k < base) (o : Nat) (x : Value) : (w.setCell ⟨k, o, none⟩ x).ownsRow base e size v n xs := h.kept (grown_set w k o x) (own_ne h hk)

set_option maxRecDepth 100000 in
set_option maxHeartbeats 4000000 in
theorem looked_any (s : ByteArray) (w : World) (hs : s.size ≤ maxLen) (ht : Tab w) : Calls Tryd.prog 40 #[.string s] w (LkRes s w) := by
  unfold maxLen at hs
  have HT := hide ht
  clear ht
  obtain ⟨R, hR⟩ : ∃ R, R = LkRes s w := ⟨_, rfl⟩
  rw [← hR]
  have HR := hide hR
  clear hR
  go_enter Tryd.func40, Tryd.ntmps40
  by_cases hb : 400 < s.size
  · have HE : Hid (Hx.lookF s = (1, 0)) := if_pos hb
    have hbI : (400 : Int) < (s.size : Int) := by omega
    clear hb
    go_wp2_with fail
    refine bodyPost_ret (v := .tuple #[.agg #[.int .i64 0, .slice none 0 0], .int .i64 1, .int .i64 0]) (by simp [results, Tryd.results40, go_sem]) rfl ?_
    rw [unhide HR]
    refine ⟨(Below.refl _ _).alloc (Nat.le_refl _) _, Or.inl ⟨by rw [unhide HE]; decide, by rw [unhide HE]⟩⟩
  · have HE : Hid (Hx.lookF s = if (Hx.tableF s).1.bad then (2, ((Hx.tableF s).1.pos : Int)) else Hx.wrongF (Hx.tableF s).2 0) := if_neg hb
    have hbI : ¬ (400 : Int) < (s.size : Int) := by omega
    have hs4 : s.size ≤ 400 := by omega
    clear hb
    have HRD := hide (readtable_any s (w.alloc (.cells #[.int .i64 0, .slice none 0 0] 103)) hs4 ((unhide HT).alloc _))
    have HB0 := hide (blk_new w #[.int .i64 0, .slice none 0 0] 103)
    have HBE0 := hide (belA (.cells #[.int .i64 0, .slice none 0 0] 103) (Below.refl w.heap.size w))
    have hsz : (w.alloc (.cells #[.int .i64 0, .slice none 0 0] 103)).heap.size = w.heap.size + 1 := by simp
    go_wp2_with fail
    refine (unhide HRD).mono ?_
    rintro e w1 ⟨hbe, ⟨hbad, rfl⟩ | ⟨hbad, v, rfl, hown, hlen⟩⟩
    · have HE2 : Hid (Hx.lookF s = (2, ((Hx.tableF s).1.pos : Int))) := by show _ = _; rw [unhide HE, hbad]; rfl
      have HB1 := hide ((hbe.block _ (lt_of_block (unhide HB0))).trans (unhide HB0))
      have HBE := hide ((unhide HBE0).trans (hbe.mono (unhide HBE0).size))
      clear hbe hbad HE HRD HB0 HBE0
      have e0 : ∀ o, (w1.alloc o).cell? ⟨w.heap.size, 0, none⟩ = some (.int .i64 0) := fun o => cA o (blk_cell (unhide HB1) 0)
      have e1 : ∀ o, (w1.alloc o).cell? ⟨w.heap.size, 1, none⟩ = some (.slice none 0 0) := fun o => cA o (blk_cell (unhide HB1) 1)
      have ef : ∀ o k, (w1.alloc o).frozen? ⟨w.heap.size, k, none⟩ = false := fun o k => blk_free (bA o (unhide HB1)) k
      go_wp2_with fail
      refine bodyPost_ret (v := .tuple #[.agg #[.int .i64 0, .slice none 0 0], .int .i64 2, .int .i64 ((Hx.tableF s).1.pos : Int)]) (by simp [results, Tryd.results40, go_sem, e0, e1]) rfl ?_
      rw [unhide HR]
      refine ⟨?_, Or.inl ⟨by rw [unhide HE2]; exact (by decide : (2 : Int) ≠ 0), by rw [unhide HE2]⟩⟩
      have hle := Nat.le_refl w.heap.size
      exact (((unhide HBE).alloc (unhide HBE).size _).setCell hle _).setCell hle _
    · have HE2 : Hid (Hx.lookF s = Hx.wrongF (Hx.tableF s).2 0) := by show _ = _; rw [unhide HE, hbad]; rfl
      obtain ⟨l, hl⟩ : ∃ l, l = (Hx.tableF s).2 := ⟨_, rfl⟩
      obtain ⟨J, hJ⟩ : ∃ J, J = (Hx.theadF s).1 := ⟨_, rfl⟩
      have HOK : Hid (∀ y ∈ l, Hx.TOk y) := by rw [hl]; exact Hx.tableF_ok s
      rw [← hl] at hown hlen HE2
      rw [← hJ]
      have HL := hide hl
      have HJ := hide hJ
      have HBAD := hide hbad
      clear HE hbad hl hJ
      obtain ⟨ao, cap, rfl⟩ := own_form hown
      have HB1 := hide (bA (.cells #[.int .i64 (J : Int), .slice ao l.length cap] 103) ((hbe.block _ (lt_of_block (unhide HB0))).trans (unhide HB0)))
      have HBE := hide (belA (.cells #[.int .i64 (J : Int), .slice ao l.length cap] 103) ((unhide HBE0).trans (hbe.mono (unhide HBE0).size)))
      have HT1 := hide (bN #[.int .i64 (J : Int), .slice ao l.length cap] 103 (w := w1) rfl)
      rw [hsz] at hown
      have HOWN := hide (hown.alloc (.cells #[.int .i64 (J : Int), .slice ao l.length cap] 103))
      have htb : w.heap.size < w1.heap.size := by have := hbe.size; omega
      clear hbe HRD HB0 HBE0 hown hsz
      go_upto_region 6 with fail
      obtain ⟨tb, htb2⟩ : ∃ tb, tb = w1.heap.size := ⟨_, rfl⟩
      rw [← htb2] at HT1 htb ⊢
      clear htb2
      generalize w1.alloc (.cells #[.int .i64 (J : Int), .slice ao l.length cap] 103) = w2 at *
      have t1 : w2.cell? ⟨tb, 1, none⟩ = some (.slice ao l.length cap) := blk_cell (unhide HT1) 1
      go_wp2_with fail
      refine (notright_any l _ w2 (own_mono (unhide HOWN) (Nat.zero_le _)) hlen (unhide HOK)).mono ?_
      rintro e w3 ⟨rfl, hb3⟩
      have HB3 := hide ((hb3.block _ (lt_of_block (unhide HB1))).trans (unhide HB1))
      have HT3 := hide ((hb3.block _ (lt_of_block (unhide HT1))).trans (unhide HT1))
      have HBE3 := hide ((unhide HBE).trans (hb3.mono (unhide HBE).size))
      have HOWN3 := hide (own_below (unhide HOWN) hb3)
      clear hb3 HB1 HT1 HBE HOWN t1
      have e0 : w3.cell? ⟨w.heap.size, 0, none⟩ = some (.int .i64 0) := blk_cell (unhide HB3) 0
      have e1 : w3.cell? ⟨w.heap.size, 1, none⟩ = some (.slice none 0 0) := blk_cell (unhide HB3) 1
      have ef : ∀ k, w3.frozen? ⟨w.heap.size, k, none⟩ = false := fun k => blk_free (unhide HB3) k
      have t0 : w3.cell? ⟨tb, 0, none⟩ = some (.int .i64 (J : Int)) := blk_cell (unhide HT3) 0
      have t1 : w3.cell? ⟨tb, 1, none⟩ = some (.slice ao l.length cap) := blk_cell (unhide HT3) 1
      have hle := Nat.le_refl w.heap.size
      rcases wrongF_cases l 0 with hw | ⟨j, hw⟩
      · have HW := hide hw
        rw [hw]
        clear hw
        have hf : ((0 : Int) != 0) = false := by decide
        go_wp2_with fail
        refine bodyPost_ret (v := .tuple #[.agg #[.int .i64 (J : Int), .slice ao l.length cap], .int .i64 0, .int .i64 0]) (by simp [results, Tryd.results40, go_sem, e0, e1]) rfl ?_
        rw [unhide HR]
        refine ⟨((unhide HBE3).setCell hle _).setCell hle _, Or.inr ⟨by rw [unhide HE2, unhide HW], hs4, unhide HBAD, by rw [← unhide HL]; exact unhide HW, by rw [← unhide HL]; exact hlen, _, by rw [← unhide HJ], ?_⟩⟩
        rw [← unhide HL]
        exact own_mono (own_set_low (own_set_low (unhide HOWN3) (by omega) _ _) (by omega) _ _) (by omega)
      · have HW := hide hw
        rw [hw]
        clear hw
        have hf : ((9 : Int) != 0) = true := by decide
        go_wp2_with fail
        refine bodyPost_ret (v := .tuple #[.agg #[.int .i64 0, .slice none 0 0], .int .i64 9, .int .i64 (j : Int)]) (by simp [results, Tryd.results40, go_sem, e0, e1]) rfl ?_
        rw [unhide HR]
        refine ⟨((unhide HBE3).setCell hle _).setCell hle _, Or.inl ⟨by rw [unhide HE2, unhide HW]; exact (by decide : (9 : Int) ≠ 0), by rw [unhide HE2, unhide HW]⟩⟩

set_option maxHeartbeats 2000000 in
theorem look_any (s : ByteArray) (w : World) (hs : s.size ≤ maxLen) (ht : Tab w) :
    Calls Tryd.prog 20 #[.string s] w fun e w' => e = .returned (.tuple #[.int .i64 (Hx.lookF s).1, .int .i64 (Hx.lookF s).2]) ∧ Below w.heap.size w w' := by
  have HL := hide (looked_any s w hs ht)
  clear hs ht
  go_enter Tryd.func20, Tryd.ntmps20
  go_wp2_with fail
  refine (unhide HL).mono ?_
  rintro e w1 ⟨hbe, ⟨_, rfl⟩ | ⟨he, _, _, _, _, v, rfl, hown⟩⟩
  · have HBE := hide hbe
    clear hbe
    go_wp2_with fail
    go_returns
    exact ⟨rfl, (unhide HBE).alloc (unhide HBE).size _⟩
  · obtain ⟨ao, cap, rfl⟩ := own_form hown
    have HBE := hide hbe
    have HE := hide he
    clear hbe hown he
    go_wp2_with fail
    go_returns
    exact ⟨by rw [unhide HE]; rfl, (unhide HBE).alloc (unhide HBE).size _⟩

end Go.Proofs.YtppcnlkhdgmaiaaDoor
namespace Go.Proofs.YtppcnlkhdgmaiaaDoor
open Go.RowKit

/-- Numbers with commas, as the program reads them. -/
def Hx.pnumsF (s : ByteArray) (st : Hx.St) : List Nat × Hx.St := if 48 ≤ Hx.byteAt s st.pos ∧ Hx.byteAt s st.pos ≤ 57 then (if st.bad = true then ([0], st) else Hx.numsF s st []) else ([], st)

/-- What is read behind a number. -/
def Hx.contF (s : ByteArray) (st : Hx.St) (acc : List Nat) : List Nat × Hx.St := if st.bad = false ∧ Hx.byteAt s st.pos = 44 then Hx.numsF s ⟨st.pos + 1, false⟩ acc else (acc, st)
theorem Hx.numsF_cont {s : ByteArray} {st : Hx.St} {acc : List Nat} (h : st.bad = false) : Hx.numsF s st acc = Hx.contF s (Hx.numF s 3 st).2 (acc ++ [(Hx.numF s 3 st).1]) := by
  rw [Hx.numsF, if_neg (by simp [h]), Hx.contF]
  by_cases hc : (Hx.numF s 3 st).2.bad = false ∧ Hx.byteAt s (Hx.numF s 3 st).2.pos = 44
  · have e : Hx.nextF s 44 (Hx.numF s 3 st).2 = (true, ⟨(Hx.numF s 3 st).2.pos + 1, false⟩) := if_pos hc
    rw [dif_pos (by rw [e]), e, if_pos hc]
  · have e := Hx.nextF_no hc
    rw [dif_neg (by rw [e]; exact Bool.false_ne_true), e, if_neg hc]
theorem Hx.contF_on {s : ByteArray} {st : Hx.St} {acc : List Nat} (h : st.bad = false) (h2 : Hx.byteAt s st.pos = 44) : Hx.contF s st acc = Hx.contF s (Hx.numF s 3 ⟨st.pos + 1, false⟩).2 (acc ++ [(Hx.numF s 3 ⟨st.pos + 1, false⟩).1]) := by
  rw [Hx.contF, if_pos ⟨h, h2⟩, Hx.numsF_cont rfl]
theorem Hx.contF_no {s : ByteArray} {st : Hx.St} {acc : List Nat} (h : ¬ (st.bad = false ∧ Hx.byteAt s st.pos = 44)) : Hx.contF s st acc = (acc, st) := if_neg h
theorem Hx.pnumsF_cont {s : ByteArray} {st : Hx.St} (hd : 48 ≤ Hx.byteAt s st.pos ∧ Hx.byteAt s st.pos ≤ 57) : Hx.pnumsF s st = Hx.contF s (Hx.numF s 3 st).2 [(Hx.numF s 3 st).1] := by
  rw [Hx.pnumsF, if_pos hd]
  cases hb : st.bad
  · rw [if_neg (by decide), Hx.numsF_cont hb]; rfl
  · rw [if_pos rfl, Hx.numF_bad hb, Hx.contF_no (by simp [hb])]

theorem snoc_nats (acc : List Nat) (n : Nat) : ints (nats (acc ++ [n])) = ints (nats acc) ++ [.int .i64 (n : Int)] := by simp [nats, ints]

set_option maxRecDepth 100000 in
set_option maxHeartbeats 4000000 in
theorem pnums_any (s : ByteArray) (b : Nat) (st : Hx.St) (w : World) (hs : s.size ≤ 1000) (hp : st.pos ≤ s.size) (hb : 1 < b) (ht : Tab w) (hr : Rd 147 s b st w) :
    Calls Tryd.prog 60 #[.pointer (some ⟨b, 0, none⟩)] w fun e w' => ∃ v, e = .returned v ∧ w'.ownsRow w.heap.size 3 1 v (Hx.pnumsF s st).1.length (ints (nats (Hx.pnumsF s st).1)) ∧ (Hx.pnumsF s st).1.length ≤ s.size + 1 ∧ Rd 147 s b (Hx.pnumsF s st).2 w' ∧ w.grownBy w' (some b) := by
  obtain ⟨i0, hi, hz0, hz1, hz2⟩ := info_parts Tryd.info3
  have HI := hide hi
  have HZ0 := hide hz0
  have HZ1 := hide hz1
  have HZ2 := hide hz2
  have HT : Hid (Tab w) := ht
  have HR : Hid (Rd 147 s b st w) := hr
  have HB : Hid (b < w.heap.size) := hr.lt
  clear hi hz0 hz1 hz2 ht hr
  go_enter Tryd.func60, Tryd.ntmps60
  by_cases hd : 48 ≤ Hx.byteAt s st.pos ∧ Hx.byteAt s st.pos ≤ 57
  · obtain ⟨kv, hkv, hk12⟩ : ∃ kv : Int, (Hx.kindOf (Hx.byteAt s st.pos) : Int) = kv ∧ (kv = 1 ∨ kv = 2) := by
      refine ⟨_, rfl, ?_⟩
      by_cases h0 : Hx.byteAt s st.pos = 48
      · exact Or.inl (by rw [(Hx.kindOf_one _).2 h0]; rfl)
      · exact Or.inr (by rw [(Hx.kindOf_two _).2 (by omega)]; rfl)
    have HKV := hide hkv
    have hP := Hx.pnumsF_cont hd
    have hnle := Hx.numF_le (s := s) (m := 3) (st := st) hp
    obtain ⟨⟨n0, st0⟩, hn0⟩ : ∃ r, Hx.numF s 3 st = r := ⟨_, rfl⟩
    have HN := hide (number_any s b st 3 3 (w.drewN 0) hs hp (by omega) rfl hb (Tab.drewN HT.out _) (Rd.drewN HR.out _))
    have HNUM := hide (fun n => number_any s b st 3 3 (w.drewN n) hs hp (by omega) rfl hb (Tab.drewN HT.out _) (Rd.drewN HR.out _))
    rw [hn0] at hP hnle HNUM
    have HP := hide hP
    simp only at hnle
    clear HN hn0
    clear hkv hd hP
    rcases hk12 with rfl | rfl
    all_goals
      go_wp2_with (first | (go_at_call 80; refine (kind_val s b st _ _ hs hp (unhide HKV) HT.out HR.out).mono ?_; rintro e w1 ⟨rfl, n1, rfl⟩) | (go_at_call 65; refine (unhide HNUM _).mono ?_; rintro e w2 ⟨rfl, hr2, hg2⟩; have HR2 := hide hr2; have HG2 := hide (grown_trans (grown_drewN _ _ _) hg2); clear hr2 hg2))
      have hown0 := World.ownsRow_lit (base := w.heap.size) (e := 3) (size := 1) w2 #[Value.int IntKind.i64 (n0 : Int)] 1 (unhide HG2).size (by unfold maxLen; omega) rfl
      have HOWN0 := hide hown0
      clear hown0 HKV HNUM
      go_loopg [4] (s.size - st0.pos) (fun gk v wr => ∃ (st' : Hx.St) (acc : List Nat), st'.pos ≤ s.size ∧ gk = s.size - st'.pos ∧ acc.length ≤ st'.pos + 1 ∧ wr.ownsRow w.heap.size 3 1 v acc.length (ints (nats acc)) ∧ Rd 147 s b st' wr ∧ w.grownBy wr (some b) ∧ Hx.contF s st' acc = Hx.pnumsF s st)
      case atStart => exact ⟨st0, [n0], hnle, rfl, by simp, unhide HOWN0, Rd.alloc (unhide HR2) _, grown_trans (unhide HG2) (grown_alloc _ _ _), (unhide HP).symm⟩
      case round =>
        clear HOWN0 HR2 HG2 HP
        obtain ⟨st', acc, hpos, rfl, hlen, hown, hrd, hgr, hfin⟩ := hrel
        have HOWN := hide hown
        have HRD := hide hrd
        have HGR := hide hgr
        have HTR : Hid (Tab wr) := HT.out.grown hb hgr
        have c2 := hrd.c2
        have hsz : Hid (w.heap.size ≤ wr.heap.size) := hgr.size
        clear hown hrd hgr
        cases hbad : st'.bad
        · rw [hbad] at c2
          by_cases h44 : Hx.byteAt s st'.pos = 44
          · rw [Hx.contF_on hbad h44] at hfin
            have hk := hide (show ((Hx.kindOf (Hx.byteAt s st'.pos) : Nat) : Int) = 5 by rw [(Hx.kindOf_five _).2 h44]; rfl)
            have hlt : st'.pos < s.size := Hx.byteAt_in (by omega)
            have htk := hide (Hx.takeF_yes hbad h44)
            have hge := Hx.numF_ge s 3 ⟨st'.pos + 1, false⟩
            have hle := Hx.numF_le (s := s) (m := 3) (st := ⟨st'.pos + 1, false⟩) (by show st'.pos + 1 ≤ _; omega)
            have HNUM := hide (fun W hT hR => number_any s b ⟨st'.pos + 1, false⟩ 3 3 W hs (by show st'.pos + 1 ≤ _; omega) (by omega) rfl hb hT hR)
            obtain ⟨⟨n5, st5⟩, hn5⟩ : ∃ r, Hx.numF s 3 ⟨st'.pos + 1, false⟩ = r := ⟨_, rfl⟩
            rw [hn5] at hfin hge hle HNUM
            simp only at hge hle
            have HFIN := hide hfin
            clear hbad h44 hfin hn5
            go_wp2_with fail
            refine (kind_val s b st' _ _ hs hpos (unhide hk) HTR.out (unhide HRD)).mono ?_
            rintro e w4 ⟨rfl, n4, rfl⟩
            go_wp2_with fail
            refine (take_any s b st' _ 44 _ hs hpos rfl (by omega) (Rd.drewN (unhide HRD) _)).mono ?_
            rintro e w4 ⟨rfl, hr4, hg4⟩
            rw [unhide htk] at hr4
            have HR4 := hide hr4
            have HT4 : Hid (Tab w4) := (Tab.drewN HTR.out _).grown hb hg4
            have HG4 := hide (grown_trans (grown_drewN wr _ _) hg4)
            clear hr4 hg4
            go_wp2_with fail
            refine (unhide HNUM _ HT4.out (unhide HR4)).mono ?_
            rintro e w5 ⟨rfl, hr5, hg5⟩
            have HR5 := hide hr5
            have HG5 := hide (grown_trans (unhide HG4) hg5)
            have HOWN5 := hide ((unhide HOWN).kept (unhide HG5) (own_ne (unhide HOWN) HB.out))
            clear hr5 hg5 HOWN HRD HG4 HR4 HT4 HTR HNUM
            go_wp2_with (at_builtin; refine wpList_append_own _ rfl _ _ 49 rfl w.heap.size 3 i0 (.int .i64 0) 1 8 Tryd.underlying49 (unhide HI) (unhide HZ0) (unhide HZ1) (unhide HZ2) rfl (by decide) _ _ _ rfl ((unhide HOWN5).alloc _) ⟨w5.heap.size, 0, none⟩ 1 1 [.int .i64 (n5 : Int)] rfl rfl ?c1 ?c2 ?c3 ?c4 ?c5 ?_)
            case c1 => exact news_new w5 [.int .i64 (n5 : Int)] 3
            case c2 => intro u hu; rw [List.mem_singleton.1 hu]; rfl
            case c3 => unfold maxLen; omega
            case c4 => omega
            case c5 => have := hsz.out; have := (unhide HG5).size; simp; omega
            · intro v' w6 hown' hgrow _
              have HOWN6 := hide hown'
              have HGROW := hide hgrow
              clear hown' hgrow
              go_wp2_with fail
              go_roundg (s.size - st5.pos)
              case measure => omega
              case rel =>
                refine ⟨st5, acc ++ [n5], hle, rfl, by simp; omega, ?_, ?_, ?_, unhide HFIN⟩
                · rw [snoc_nats, List.length_append]; exact unhide HOWN6
                · exact ((unhide HR5).alloc _).kept (unhide HGROW) (fun e => by rcases own_ne (unhide HOWN5) HB.out with h | h <;> simp_all)
                · exact grown_own (grown_trans (unhide HGR) (grown_trans (unhide HG5) (grown_alloc _ _ _))) (unhide HGROW) (fun k e => ((unhide HOWN5).lt k e).1)
          · rw [Hx.contF_no (fun g => h44 g.2)] at hfin
            have HFIN := hide hfin
            obtain ⟨kv, hkv, hk1⟩ : ∃ kv : Int, (Hx.kindOf (Hx.byteAt s st'.pos) : Int) = kv ∧ (kv == 5) = false := by
              refine ⟨_, rfl, ?_⟩
              rw [beq_eq_false_iff_ne]; intro e; exact h44 ((Hx.kindOf_five (Hx.byteAt s st'.pos)).1 (by omega))
            have HKV := hide hkv
            clear h44 hkv hbad hfin
            go_wp2_with fail
            refine (kind_val s b st' _ _ hs hpos (unhide HKV) HTR.out (unhide HRD)).mono ?_
            rintro e w4 ⟨rfl, n4, rfl⟩
            go_wp2_with fail
            go_returns
            rw [← unhide HFIN]
            exact ⟨_, rfl, unhide HOWN, by show acc.length ≤ _; omega, unhide HRD, grown_trans (unhide HGR) (grown_drewN _ _ _)⟩
        · rw [hbad] at c2
          rw [Hx.contF_no (by simp [hbad])] at hfin
          have HFIN := hide hfin
          clear hfin hbad
          go_wp2_with fail
          go_returns
          rw [← unhide HFIN]
          exact ⟨_, rfl, unhide HOWN, by show acc.length ≤ _; omega, unhide HRD, unhide HGR⟩
  · obtain ⟨kv, hkv, hk1, hk2⟩ : ∃ kv : Int, (Hx.kindOf (Hx.byteAt s st.pos) : Int) = kv ∧ (kv != 1) = true ∧ (kv != 2) = true := by
      refine ⟨_, rfl, ?_, ?_⟩
      · rw [bne_iff_ne]; intro e; have := (Hx.kindOf_one (Hx.byteAt s st.pos)).1 (by omega); omega
      · rw [bne_iff_ne]; intro e; have := (Hx.kindOf_two (Hx.byteAt s st.pos)).1 (by omega); omega
    have HKV := hide hkv
    have HP : Hid (Hx.pnumsF s st = ([], st)) := if_neg hd
    clear hkv hd
    go_wp2_with (go_at_call 80; refine (kind_val s b st _ _ hs hp (unhide HKV) HT.out HR.out).mono ?_; rintro e w' ⟨rfl, n1, rfl⟩)
    go_returns
    rw [unhide HP]
    exact ⟨_, rfl, World.ownsRow_nil _ _ _ _, Nat.zero_le _, Rd.drewN HR.out _, grown_drewN _ _ _⟩

end Go.Proofs.YtppcnlkhdgmaiaaDoor
namespace Go.Proofs.YtppcnlkhdgmaiaaDoor
open Go.RowKit

/-- A row of numbers, as it lies. -/
def IntsR (w : World) (v : Value) (zs : List Int) : Prop :=
  ∃ ao cap, v = .slice ao zs.length cap ∧ zs.length ≤ maxLen ∧ ∀ (i : Nat) (z : Int), zs[i]? = some z → I64 z ∧ ∃ b o, ao = some ⟨b, o, none⟩ ∧ w.cell? ⟨b, o + i, none⟩ = some (.int .i64 z)
theorem IntsR.below {w w' : World} {B : Nat} {v : Value} {zs : List Int} (h : IntsR w v zs) (hb : Below B w w') (hB : w.heap.size ≤ B) : IntsR w' v zs := by
  obtain ⟨ao, cap, e, hm, hx⟩ := h
  refine ⟨ao, cap, e, hm, fun i z hi => ?_⟩
  obtain ⟨h1, b, o, h2, h3⟩ := hx i z hi
  exact ⟨h1, b, o, h2, cell_below hb hB h3⟩
namespace Hx
def nxL (nx : Nat → Nat) : List Int := (List.range 4).map fun p => (nx p : Int)
theorem nxL_len (nx : Nat → Nat) : (nxL nx).length = 4 := by simp [nxL]
theorem nxL_get (nx : Nat → Nat) {p : Nat} (h : p < 4) : (nxL nx).getD p 0 = (nx p : Int) := by
  rw [List.getD_eq_getElem?_getD]
  simp [nxL, h]
theorem nxL_set (nx : Nat → Nat) {p : Nat} (h : p < 4) : (nxL nx).set p ((nx p : Int) + 1) = nxL (fun a => if a = p then nx a + 1 else nx a) := by
  apply List.ext_getElem?
  intro i
  rw [List.getElem?_set]
  unfold nxL
  rw [List.length_map, List.length_range, List.getElem?_map, List.getElem?_map]
  by_cases e : p = i
  · subst e
    rw [if_pos rfl, if_pos h, List.getElem?_range h]
    simp
  · rw [if_neg e]
    by_cases hi : i < 4
    · rw [List.getElem?_range hi]
      have e' : ¬ i = p := fun g => e g.symm
      simp [e']
    · rw [List.getElem?_eq_none (by simp; omega)]; rfl
theorem fit_is {K : Nat} {L : List Lst} {r : Int} {nx : Nat → Nat} {j : Nat} (h : (fitStep K L r nx j).isSome = true) : ∃ y, L[j]? = some y ∧ y.no = nx y.pl ∧ fitStep K L r nx j = some ((r - (if y.x.rest then 1 else 0)) + (if restAfter L j then 1 else 0), fun p => if p = y.pl then nx p + 1 else nx p) := by
  unfold fitStep at h ⊢
  cases hy : L[j]? with
  | none => rw [hy] at h; cases h
  | some y =>
    rw [hy] at h
    simp only at h ⊢
    by_cases h1 : y.no = nx y.pl
    · rw [if_pos h1] at h ⊢
      by_cases h2 : (K : Int) < (r - (if y.x.rest then 1 else 0)) + (if restAfter L j then 1 else 0)
      · rw [if_pos h2] at h; cases h
      · rw [if_neg h2]
        exact ⟨y, rfl, h1, rfl⟩
    · rw [if_neg h1] at h; cases h
theorem fit_mk {K : Nat} {L : List Lst} {r : Int} {nx : Nat → Nat} {j : Nat} {y : Lst} (hy : L[j]? = some y) (h1 : y.no = nx y.pl) (h2 : (r - (if y.x.rest then 1 else 0)) + (if restAfter L j then 1 else 0) ≤ (K : Int)) : (fitStep K L r nx j).isSome = true := by
  unfold fitStep
  rw [hy]
  simp only
  rw [if_pos h1, if_neg (by omega)]
  rfl
end Hx
/-- What lies in memory while order draws. -/
structure InO (w : World) (P : Array Value) (nx : Nat → Nat) (ov : Value) (o : List Nat) (w' : World) : Prop where
  pb : w'.heap[w.heap.size]? = some (.cells P 28 (0, 0))
  nb : w'.heap[w.heap.size + 1]? = some (.cells (ints (Hx.nxL nx)).toArray 106 (0, 0))
  ow : w'.ownsRow (w.heap.size + 1 + 1) 3 1 ov o.length (ints (nats o))
  be : Below w.heap.size w w'
theorem InO.under {w P nx ov o w' w''} (h : InO w P nx ov o w') (hb : Below w'.heap.size w' w'') : InO w P nx ov o w'' :=
  ⟨(hb.block _ (lt_of_block h.pb)).trans h.pb, (hb.block _ (lt_of_block h.nb)).trans h.nb, own_below h.ow hb, h.be.trans (hb.mono h.be.size)⟩
theorem InO.set {w P nx ov o w'} (h : InO w P nx ov o w') {p : Nat} (hp : p < 4) : InO w P (fun a => if a = p then nx a + 1 else nx a) ov o (w'.setCell ⟨w.heap.size + 1, p, none⟩ (.int .i64 ((nx p : Int) + 1))) := by
  refine ⟨blk_set_other h.pb (by omega) _ _, ?_, own_set h.ow h.nb (by decide) _ _, h.be.setCell (by show _ ≤ w.heap.size + 1; omega) _⟩
  rw [← Hx.nxL_set nx hp, ← arw_set]
  exact blk_set h.nb p _
/-- What order answers. -/
def OrdRes (K : Nat) (L : List Hx.Lst) (w : World) (e : Ending) (w' : World) : Prop :=
  ∃ v', e = .returned v' ∧ (v' = .slice none 0 0 ∨ ∃ o : List Nat, o.length = L.length ∧ (Hx.endS K L o 0 (fun _ => 0)).isSome = true ∧ (∀ i ∈ o, i < L.length) ∧ w'.ownsRow 0 3 1 v' o.length (ints (nats o))) ∧ Below w.heap.size w w'

set_option maxRecDepth 100000 in
set_option maxHeartbeats 4000000 in
theorem order_any (J K D : Nat) (L : List Hx.Lst) (zs : List Int) (v pv : Value) (w : World) (hL : ∀ y ∈ L, KS y) (hpos : 0 < L.length) (h9 : L.length ≤ 9)
    (ho : w.ownsRow 0 39 7 v L.length (ksCells L)) (hz : IntsR w pv zs) :
    Calls Tryd.prog 24 #[planV J K D v, pv] w (OrdRes K L w) := by
  obtain ⟨gs, caps, rfl, _, hgs⟩ := own_pos ho hpos
  obtain ⟨pao, pcap, rfl, hzl, hzx⟩ := hz
  have HPK : Hid (∀ (i : Nat) (z : Int), zs[i]? = some z → I64 z ∧ ∃ b o, pao = some ⟨b, o, none⟩ ∧ ∀ w', Below w.heap.size w w' → w'.cell? ⟨b, o + i, none⟩ = some (.int .i64 z)) := fun i z hi => by
    obtain ⟨h1, b, o, h2, h3⟩ := hzx i z hi
    exact ⟨h1, b, o, h2, fun w' hb => cell_below hb (Nat.le_refl _) h3⟩
  obtain ⟨i0, hi, hz0, hz1, hz2⟩ := info_parts Tryd.info3
  have HI := hide hi
  have HZ0 := hide hz0
  have HZ1 := hide hz1
  have HZ2 := hide hz2
  obtain ⟨n, hn⟩ : ∃ n, n = L.length := ⟨_, rfl⟩
  have HCL : Hid (∀ (j : Nat) (y : Hx.Lst), L[j]? = some y → ∀ w', Below w.heap.size w w' → ∀ t, t < 7 → w'.cell? ⟨gs, j * 7 + t, none⟩ = (kstCells y)[t]?) := fun j y hy w' hb t ht => by
    rw [hb.cell (p := ⟨gs, j * 7 + t, none⟩) hgs]
    exact own_at kstCells 7 (fun _ => rfl) ho rfl j y hy t ht
  have HLY : Hid (∀ j, j < n → ∃ y, L[j]? = some y ∧ KS y) := fun j hj => ⟨L[j]'(by omega), List.getElem?_eq_getElem _, hL _ (List.getElem_mem _)⟩
  have HNL := hide hn
  rw [← hn] at h9 hpos
  rw [show L.length = n from hn.symm]
  obtain ⟨P, hP⟩ : ∃ P : Array Value, P = #[.int .i64 (J : Int), .int .i64 (K : Int), .int .i64 (D : Int), .slice (some ⟨gs, 0, none⟩) n caps] := ⟨_, rfl⟩
  have HP := hide hP
  have HI0 : Hid (InO w P (fun _ => 0) (.slice none 0 0) [] ((w.alloc (.cells #[.int .i64 (J : Int), .int .i64 (K : Int), .int .i64 (D : Int), .slice (some ⟨gs, 0, none⟩) n caps] 28)).alloc (.cells #[.int .i64 0, .int .i64 0, .int .i64 0, .int .i64 0] 106))) :=
    ⟨by rw [hP]; exact bA _ (blk_new w _ _), bN _ _ (by simp), World.ownsRow_nil _ _ _ _, belA _ (belA _ (Below.refl _ _))⟩
  have HPC : Hid (∀ w' : World, w'.heap[w.heap.size]? = some (.cells P 28 (0, 0)) → w'.cell? ⟨w.heap.size, 1, none⟩ = some (.int .i64 (K : Int)) ∧ w'.cell? ⟨w.heap.size, 3, none⟩ = some (.slice (some ⟨gs, 0, none⟩) n caps)) := fun w' h => by
    rw [hP] at h
    exact ⟨blk_cell h 1, blk_cell h 3⟩
  clear ho hzx hL hn hP hi hz0 hz1 hz2
  go_enter Tryd.func24, Tryd.ntmps24
  go_upto_region 3 with fail
  generalize (w.alloc (.cells #[.int .i64 (J : Int), .int .i64 (K : Int), .int .i64 (D : Int), .slice (some ⟨gs, 0, none⟩) n caps] 28)).alloc (.cells #[.int .i64 0, .int .i64 0, .int .i64 0, .int .i64 0] 106) = W1 at HI0 ⊢
  go_wp2_with fail
  go_loopg [5, 7] n (fun gk ov rr wr => ∃ (o : List Nat) (r : Int) (nx : Nat → Nat), o.length ≤ n ∧ gk = n - o.length ∧ rr = .int .i64 r ∧ Hid (Hx.endS K L o 0 (fun _ => 0) = some (r, nx)) ∧ -(o.length : Int) ≤ r ∧ r ≤ (o.length : Int) ∧ Hid (∀ i ∈ o, i < n) ∧ InO w P nx ov o wr)
  case atStart => exact ⟨[], 0, fun _ => 0, Nat.zero_le _, rfl, rfl, rfl, by simp, by simp, (hide (fun i h => absurd h List.not_mem_nil) : Hid (∀ i ∈ ([] : List Nat), i < n)), unhide HI0⟩
  case round =>
    clear HI0
    obtain ⟨o, r, nx, hol, rfl, rfl, HES, hr1, hr2, HIN, hin⟩ := hrel
    obtain ⟨oa, oc, rfl⟩ := own_form hin.ow
    obtain ⟨p1, p3⟩ := unhide HPC wr hin.pb
    have HW := hide hin
    clear hin
    obtain ⟨k, hk⟩ : ∃ k, k = o.length := ⟨_, rfl⟩
    have HK := hide hk
    rw [← hk] at hol hr1 hr2 ⊢
    clear hk
    by_cases hlt : k < n
    · have hltI : (k : Int) < (n : Int) := by omega
      obtain ⟨wz, hwz⟩ : ∃ wz, wz = wr := ⟨_, rfl⟩
      have HWZ := hide (hwz.symm)
      have HUN : Hid (∀ w', Below wz.heap.size wz w' → InO w P nx (.slice oa o.length oc) o w') := fun w' hb => by rw [hwz] at hb; exact (unhide HW).under hb
      have HB0 : Hid (Below wz.heap.size wz wr) := by rw [hwz]; exact Below.refl _ _
      clear hwz HWZ HW p1
      go_wp2_with fail
      go_loopg [8, 9] n (fun gk mv ii wr => ∃ (m : List Nat) (i : Nat), i ≤ n ∧ gk = n - i ∧ ii = .int .i64 (i : Int) ∧ m.length ≤ i ∧ Hid (∀ j ∈ m, j < n ∧ (Hx.fitStep K L r nx j).isSome = true) ∧ wr.ownsRow wz.heap.size 3 1 mv m.length (ints (nats m)) ∧ Below wz.heap.size wz wr)
      case atStart => exact ⟨[], 0, Nat.zero_le _, rfl, rfl, Nat.zero_le _, (hide (fun j h => absurd h List.not_mem_nil) : Hid (∀ j ∈ ([] : List Nat), j < n ∧ (Hx.fitStep K L r nx j).isSome = true)), World.ownsRow_nil _ _ _ _, unhide HB0⟩
      case round =>
        clear HB0 p3
        obtain ⟨m, i, hi, rfl, rfl, hml, HM, hrow, hbe⟩ := hrel
        obtain ⟨ma, mc, rfl⟩ := own_form hrow
        obtain ⟨p1, p3⟩ := unhide HPC wr (unhide HUN wr hbe).pb
        have HROW := hide hrow
        have HBE := hide hbe
        clear hrow hbe
        by_cases hlt2 : i < n
        · have hlt2I : (i : Int) < (n : Int) := by omega
          obtain ⟨y, hy, hks⟩ := unhide HLY i hlt2
          have HY := hide hy
          have cx := unhide HCL i y hy wr (unhide HUN wr (unhide HBE)).be
          have x0 : wr.cell? ⟨gs, i * 7, none⟩ = some (.int .i64 (y.pl : Int)) := cx 0 (by omega)
          have x1 : wr.cell? ⟨gs, i * 7 + 1, none⟩ = some (.int .i64 (y.no : Int)) := cx 1 (by omega)
          have x2 : wr.cell? ⟨gs, i * 7 + 2, none⟩ = some (.int .i64 (y.x.lo : Int)) := cx 2 (by omega)
          have x3 : wr.cell? ⟨gs, i * 7 + 3, none⟩ = some (.int .i64 (y.x.hi : Int)) := cx 3 (by omega)
          have x4 : wr.cell? ⟨gs, i * 7 + 4, none⟩ = some (.bool y.x.rest) := cx 4 (by omega)
          have x5 : wr.cell? ⟨gs, i * 7 + 5, none⟩ = some (.int .i64 (y.x.mn : Int)) := cx 5 (by omega)
          have x6 : wr.cell? ⟨gs, i * 7 + 6, none⟩ = some (.int .i64 (y.x.mx : Int)) := cx 6 (by omega)
          have hpl := hks.pl
          have hno := hks.no
          obtain ⟨r1, hr1E⟩ : ∃ r1 : Int, r1 = r - (if y.x.rest then 1 else 0) := ⟨_, rfl⟩
          obtain ⟨ra, hra⟩ : ∃ ra, ra = Hx.restAfter L i := ⟨_, rfl⟩
          obtain ⟨op, hop⟩ : ∃ op : Int, op = r1 + (if ra then 1 else 0) := ⟨_, rfl⟩
          have hr1b : -20 ≤ r1 ∧ r1 ≤ 20 := by rw [hr1E]; split <;> omega
          have hopb : -21 ≤ op ∧ op ≤ 21 := by rw [hop]; split <;> omega
          have HR1 := hide hr1E
          have HRA := hide hra
          have HOP := hide hop
          clear cx hy hks hr1E hra hop
          go_upto_region 10 with fail
          have HX0 := hide (bN (#[.int .i64 (y.pl : Int), .int .i64 (y.no : Int), .int .i64 (y.x.lo : Int), .int .i64 (y.x.hi : Int), .bool y.x.rest, .int .i64 (y.x.mn : Int), .int .i64 (y.x.mx : Int)]) 39 (w := wr) rfl)
          have HBE1 := hide ((unhide HBE).alloc (unhide HBE).size (.cells #[.int .i64 (y.pl : Int), .int .i64 (y.no : Int), .int .i64 (y.x.lo : Int), .int .i64 (y.x.hi : Int), .bool y.x.rest, .int .i64 (y.x.mn : Int), .int .i64 (y.x.mx : Int)] 39))
          have HROW1 := hide ((unhide HROW).alloc (.cells #[.int .i64 (y.pl : Int), .int .i64 (y.no : Int), .int .i64 (y.x.lo : Int), .int .i64 (y.x.hi : Int), .bool y.x.rest, .int .i64 (y.x.mn : Int), .int .i64 (y.x.mx : Int)] 39))
          obtain ⟨xb, hxb⟩ : ∃ xb, xb = wr.heap.size := ⟨_, rfl⟩
          rw [← hxb] at HX0 ⊢
          clear HBE HROW x0 x1 x2 x3 x4 x5 x6 hxb p1 p3
          generalize wr.alloc (.cells #[.int .i64 (y.pl : Int), .int .i64 (y.no : Int), .int .i64 (y.x.lo : Int), .int .i64 (y.x.hi : Int), .bool y.x.rest, .int .i64 (y.x.mn : Int), .int .i64 (y.x.mx : Int)] 39) = wx at HX0 HBE1 HROW1 ⊢
          have z4 : wx.cell? ⟨xb, 4, none⟩ = some (.bool y.x.rest) := blk_cell (unhide HX0) 4
          go_upto_if 34 with fail
          go_cut [11] (fun s11 wc => s11 = .int .i64 r1 ∧ wx = wc)
          case first =>
            cases hr : y.x.rest with
            | false =>
              rw [hr] at z4
              have HG : Hid (r = r1) := by show _ = _; rw [unhide HR1, hr]; simp
              clear hr
              go_wp2_with fail
              go_meet
              case rel => exact ⟨by rw [unhide HG], rfl⟩
            | true =>
              rw [hr] at z4
              have HG : Hid (r - 1 = r1) := by show _ = _; rw [unhide HR1, hr]; simp
              clear hr
              go_wp2_with fail
              go_meet
              case rel => exact ⟨by rw [unhide HG], rfl⟩
          case rest =>
          obtain ⟨rfl, rfl⟩ := hcut
          clear z4
          obtain ⟨p1, p3⟩ := unhide HPC wx (unhide HUN wx (unhide HBE1)).pb
          go_upto_region 13 with fail
          go_cut [51] (fun s51 wc => s51 = .bool ra ∧ wx = wc)
          case first =>
            by_cases hi1 : i + 1 < n
            · have hi1I : (i : Int) + 1 < (n : Int) := by omega
              have hi10 : (0 : Int) ≤ (i : Int) + 1 := by omega
              obtain ⟨z, hz, _⟩ := unhide HLY (i + 1) hi1
              have HG : Hid (z.x.rest = ra) := by show _ = _; rw [unhide HRA]; unfold Hx.restAfter; rw [hz]
              have z4 : wx.cell? ⟨gs, (i + 1) * 7 + 4, none⟩ = some (.bool z.x.rest) := unhide HCL (i + 1) z hz wx (unhide HUN wx (unhide HBE1)).be 4 (by omega)
              clear hz hi1
              go_wp2_with fail
              go_meet
              case rel => exact ⟨by rw [unhide HG], rfl⟩
            · have hi1I : ¬ (i : Int) + 1 < (n : Int) := by omega
              have HG : Hid (false = ra) := by
                show _ = _
                rw [unhide HRA]
                unfold Hx.restAfter
                rw [List.getElem?_eq_none (by have := unhide HNL; omega)]
              clear hi1
              go_wp2_with fail
              go_meet
              case rel => exact ⟨by rw [unhide HG], rfl⟩
          case rest =>
          obtain ⟨rfl, rfl⟩ := hcut
          go_upto_if 51 with fail
          go_cut [11] (fun s11 wc => s11 = .int .i64 op ∧ wx = wc)
          case first =>
            cases ra with
            | false =>
              have HG : Hid (r1 = op) := by show _ = _; rw [unhide HOP]; simp
              go_wp2_with fail
              go_meet
              case rel => exact ⟨by rw [unhide HG], rfl⟩
            | true =>
              have HG : Hid (r1 + 1 = op) := by show _ = _; rw [unhide HOP]; simp
              go_wp2_with fail
              go_meet
              case rel => exact ⟨by rw [unhide HG], rfl⟩
          case rest =>
          obtain ⟨rfl, rfl⟩ := hcut
          have z0 : wx.cell? ⟨xb, 0, none⟩ = some (.int .i64 (y.pl : Int)) := blk_cell (unhide HX0) 0
          have z1 : wx.cell? ⟨xb, 1, none⟩ = some (.int .i64 (y.no : Int)) := blk_cell (unhide HX0) 1
          obtain ⟨nv, hnv⟩ : ∃ nv, nv = nx y.pl := ⟨_, rfl⟩
          have n0 : wx.cell? ⟨w.heap.size + 1, y.pl, none⟩ = some (.int .i64 (nv : Int)) := by
            rw [arw_cell (unhide HUN wx (unhide HBE1)).nb (by rw [Hx.nxL_len]; exact hpl), Hx.nxL_get _ hpl, hnv]
          have hplI : (y.pl : Int) < 4 := by omega
          have hpl0 : (0 : Int) ≤ (y.pl : Int) := by omega
          have HNV := hide hnv
          clear hnv
          by_cases hc1 : y.no = nv
          · have hc1I : ((y.no : Int) == (nv : Int)) = true := by simp [hc1]
            by_cases hc2 : op ≤ (K : Int)
            · have hc2D : decide (op ≤ (K : Int)) = true := decide_eq_true hc2
              have HFT : Hid ((Hx.fitStep K L r nx i).isSome = true) := Hx.fit_mk (unhide HY) (by rw [hc1]; exact unhide HNV) (by rw [← unhide HR1, ← unhide HRA, ← unhide HOP]; exact hc2)
              rw [hc1] at z1
              clear hc1 hc1I
              go_upto_region 15 with fail
              go_quiet (fail)
              go_upto_region 16 with fail
              generalize hwy : World.drewN wx _ = wy
              have HBE2 : Hid (Below wz.heap.size wz wy) := by rw [← hwy]; exact below_drewN (unhide HBE1) _
              have HROW2 : Hid (wy.ownsRow wz.heap.size 3 1 (.slice ma m.length mc) m.length (ints (nats m))) := by rw [← hwy]; exact own_below (unhide HROW1) (below_drewN (Below.refl _ _) _)
              clear hwy z0 z1 n0 p1 p3 HX0 HBE1 HROW1
              go_wp2_with (at_builtin; refine wpList_append_own _ rfl _ _ 49 rfl wz.heap.size 3 i0 (.int .i64 0) 1 8 Tryd.underlying49 (unhide HI) (unhide HZ0) (unhide HZ1) (unhide HZ2) rfl (by decide) _ _ _ rfl ((unhide HROW2).alloc _) ⟨wy.heap.size, 0, none⟩ 1 1 [.int .i64 (i : Int)] rfl rfl ?c1 ?c2 ?c3 ?c4 ?c5 ?_)
              case c1 => exact news_new wy [.int .i64 (i : Int)] 3
              case c2 => intro u hu; rw [List.mem_singleton.1 hu]; rfl
              case c3 => unfold maxLen; omega
              case c4 => omega
              case c5 => have := (unhide HBE2).size; simp; omega
              · intro v' w6 hown' hgrow _
                have HOWN6 := hide hown'
                have HGROW := hide hgrow
                clear hown' hgrow
                go_wp2_with fail
                go_roundg (n - (i + 1))
                case measure => omega
                case rel =>
                  refine ⟨m ++ [i], i + 1, by omega, rfl, by go_num, by simp; omega, fun j hj => ?_, ?_, ?_⟩
                  · rcases List.mem_append.1 hj with h | h
                    · exact unhide HM j h
                    · rw [List.mem_singleton.1 h]; exact ⟨hlt2, unhide HFT⟩
                  · rw [snoc_nats, List.length_append]; exact unhide HOWN6
                  · exact ((unhide HBE2).alloc (unhide HBE2).size _).grown (unhide HGROW) (by have := (unhide HBE2).size; simp; omega) (fun k e => ((unhide HROW2).lt k e).1)
            · have hc2D : decide (op ≤ (K : Int)) = false := decide_eq_false hc2
              rw [hc1] at z1
              clear hc1 hc1I
              go_upto_region 15 with fail
              go_quiet (fail)
              go_wp2_with fail
              go_roundg (n - (i + 1))
              case measure => omega
              case rel => exact ⟨m, i + 1, by omega, rfl, by go_num, by omega, HM, own_below (unhide HROW1) (below_drewN (Below.refl _ _) _), below_drewN (unhide HBE1) _⟩
          · have hc1I : ((y.no : Int) == (nv : Int)) = false := by rw [beq_eq_false_iff_ne]; omega
            clear hc1
            go_upto_region 15 with fail
            go_quiet (fail)
            go_wp2_with fail
            go_roundg (n - (i + 1))
            case measure => omega
            case rel => exact ⟨m, i + 1, by omega, rfl, by go_num, by omega, HM, own_below (unhide HROW1) (below_drewN (Below.refl _ _) _), below_drewN (unhide HBE1) _⟩
        · have hlt2I : ¬ (i : Int) < (n : Int) := by omega
          by_cases hm0 : m.length = 0
          · have hm0I : ((m.length : Int) == 0) = true := by simp [hm0]
            have HB2 := hide (unhide HUN wr (unhide HBE)).be
            clear hm0
            go_wp2_with fail
            go_returns
            exact ⟨_, rfl, Or.inl rfl, unhide HB2⟩
          · have hm0I : ((m.length : Int) == 0) = false := by rw [beq_eq_false_iff_ne]; omega
            obtain ⟨gm, cm, em, hgm1, hgm2⟩ := own_pos (unhide HROW) (by omega)
            cases em
            obtain ⟨ml, hmlE⟩ : ∃ ml, ml = m.length := ⟨_, rfl⟩
            have hml0 : 0 < ml := by omega
            have hml9 : ml ≤ 9 := by omega
            have HML := hide hmlE
            rw [← hmlE] at hm0I HROW ⊢
            have HW := hide (unhide HUN wr (unhide HBE))
            clear hmlE hm0 hml hi hlt2 p1 HUN HBE
            go_upto_if 78 with fail
            go_cut [12] (fun s12 wc => ∃ c : Int, s12 = .int .i64 c ∧ I64 c ∧ wr = wc)
            case first =>
              cases hzk : zs[k]? with
              | none =>
                have hkz : ¬ (k : Int) < (zs.length : Int) := by
                  have := List.getElem?_eq_none_iff.1 hzk
                  omega
                clear hzk
                go_wp2_with fail
                go_meet
                case rel => exact ⟨0, rfl, ⟨by omega, by omega⟩, rfl⟩
              | some z =>
                have hkz : (k : Int) < (zs.length : Int) := by
                  have := (List.getElem?_eq_some_iff.1 hzk).1
                  omega
                obtain ⟨g1, b, ob, rfl, g2⟩ := unhide HPK k z hzk
                have cz := g2 wr (unhide HW).be
                have HG1 := hide g1
                have hk0 : (0 : Int) ≤ (k : Int) := by omega
                clear hzk g1 g2
                go_wp2_with fail
                go_meet
                case rel => exact ⟨z, rfl, unhide HG1, rfl⟩
            case rest =>
            obtain ⟨c, rfl, hc, rfl⟩ := hcut
            have hp := Hx.pickN_lt c (n := ml) hml0
            have HPA : Hid (∀ w', Calls Tryd.prog 15 #[.int .i64 c, .int .i64 (ml : Int)] w' fun e w2 => e = .returned (.int .i64 (Hx.pickN c ml : Int)) ∧ w' = w2) := fun w' => (pick_any c ml w' hc.1 hc.2 hml0 (by omega)).mono (fun e w2 h => ⟨h.1, h.2.symm⟩)
            generalize Hx.pickN c ml = q at HPA hp
            obtain ⟨j, hj⟩ : ∃ j, j = m.getD q 0 := ⟨_, rfl⟩
            obtain ⟨hjn, hjf⟩ := unhide HM j (by rw [hj]; exact List.mem_of_getElem? (Hx.getD_at (by have := unhide HML; omega)))
            have c0 : wr.cell? ⟨gm, q, none⟩ = some (.int .i64 (j : Int)) := by
              rw [hj]
              have h := own_mono (unhide HROW) (Nat.zero_le _)
              exact ord_at h (unhide HML) hp
            obtain ⟨y, hy, hyn, hfs⟩ := Hx.fit_is hjf
            have hks : KS y := by
              obtain ⟨y', hy', h⟩ := unhide HLY j hjn
              rw [hy] at hy'
              cases hy'
              exact h
            have hpl := hks.pl
            have hno := hks.no
            have HY := hide hy
            have HES2 : Hid (Hx.endS K L (o ++ [j]) 0 (fun _ => 0) = some ((r - (if y.x.rest then 1 else 0)) + (if Hx.restAfter L j then 1 else 0), fun p => if p = y.pl then nx p + 1 else nx p)) := by
              show _ = _
              rw [Hx.endS_snoc, unhide HES, Option.bind_some, hfs]
            have hjI : (j : Int) < (n : Int) := by omega
            have hj0 : (0 : Int) ≤ (j : Int) := by omega
            have hqI : (q : Int) < (ml : Int) := by omega
            have hq0 : (0 : Int) ≤ (q : Int) := by omega
            obtain ⟨r1, hr1E⟩ : ∃ r1 : Int, r1 = r - (if y.x.rest then 1 else 0) := ⟨_, rfl⟩
            obtain ⟨ra, hra⟩ : ∃ ra, ra = Hx.restAfter L j := ⟨_, rfl⟩
            obtain ⟨op, hop⟩ : ∃ op : Int, op = r1 + (if ra then 1 else 0) := ⟨_, rfl⟩
            rw [← hr1E, ← hra, ← hop] at HES2
            have hr1b : -20 ≤ r1 ∧ r1 ≤ 20 := by rw [hr1E]; split <;> omega
            have HOB : Hid (-((k + 1 : Nat) : Int) ≤ op ∧ op ≤ ((k + 1 : Nat) : Int)) := by
              show _ ∧ _
              rw [hop, hr1E]
              constructor <;> (split <;> split <;> omega)
            have hopb : -21 ≤ op ∧ op ≤ 21 := by rw [hop]; split <;> omega
            have HR1 := hide hr1E
            have HRA := hide hra
            have HOP := hide hop
            have x4 : wr.cell? ⟨gs, j * 7 + 4, none⟩ = some (.bool y.x.rest) := unhide HCL j y hy wr (unhide HW).be 4 (by omega)
            have hynI : (nx y.pl : Int) = (y.no : Int) := by omega
            have HYN := hide hynI
            clear hj hjf hy hfs hks hr1E hra hop hyn hynI HROW HES HM
            go_wp2_with fail
            refine (unhide HPA _).mono ?_
            rintro e w4 ⟨rfl, rfl⟩
            go_upto_if 96 with fail
            go_cut [7] (fun s7 wc => s7 = .int .i64 r1 ∧ wr = wc)
            case first =>
              cases hr : y.x.rest with
              | false =>
                rw [hr] at x4
                have HG : Hid (r = r1) := by show _ = _; rw [unhide HR1, hr]; simp
                clear hr
                go_wp2_with fail
                go_meet
                case rel => exact ⟨by rw [unhide HG], rfl⟩
              | true =>
                rw [hr] at x4
                have HG : Hid (r - 1 = r1) := by show _ = _; rw [unhide HR1, hr]; simp
                clear hr
                go_wp2_with fail
                go_meet
                case rel => exact ⟨by rw [unhide HG], rfl⟩
            case rest =>
            obtain ⟨rfl, rfl⟩ := hcut
            clear x4 c0
            go_upto_region 25 with fail
            go_cut [113] (fun s113 wc => s113 = .bool ra ∧ wr = wc)
            case first =>
              by_cases hi1 : j + 1 < n
              · have hi1I : (j : Int) + 1 < (n : Int) := by omega
                have hi10 : (0 : Int) ≤ (j : Int) + 1 := by omega
                obtain ⟨z, hz, _⟩ := unhide HLY (j + 1) hi1
                have HG : Hid (z.x.rest = ra) := by show _ = _; rw [unhide HRA]; unfold Hx.restAfter; rw [hz]
                have z4 : wr.cell? ⟨gs, (j + 1) * 7 + 4, none⟩ = some (.bool z.x.rest) := unhide HCL (j + 1) z hz wr (unhide HW).be 4 (by omega)
                clear hz hi1
                go_wp2_with fail
                go_meet
                case rel => exact ⟨by rw [unhide HG], rfl⟩
              · have hi1I : ¬ (j : Int) + 1 < (n : Int) := by omega
                have HG : Hid (false = ra) := by
                  show _ = _
                  rw [unhide HRA]
                  unfold Hx.restAfter
                  rw [List.getElem?_eq_none (by have := unhide HNL; omega)]
                clear hi1
                go_wp2_with fail
                go_meet
                case rel => exact ⟨by rw [unhide HG], rfl⟩
            case rest =>
            obtain ⟨rfl, rfl⟩ := hcut
            go_upto_if 113 with fail
            go_cut [7] (fun s7 wc => s7 = .int .i64 op ∧ wr = wc)
            case first =>
              cases ra with
              | false =>
                have HG : Hid (r1 = op) := by show _ = _; rw [unhide HOP]; simp
                go_wp2_with fail
                go_meet
                case rel => exact ⟨by rw [unhide HG], rfl⟩
              | true =>
                have HG : Hid (r1 + 1 = op) := by show _ = _; rw [unhide HOP]; simp
                go_wp2_with fail
                go_meet
                case rel => exact ⟨by rw [unhide HG], rfl⟩
            case rest =>
            obtain ⟨rfl, rfl⟩ := hcut
            have x0 : wr.cell? ⟨gs, j * 7, none⟩ = some (.int .i64 (y.pl : Int)) := unhide HCL j y (unhide HY) wr (unhide HW).be 0 (by omega)
            have n0 : wr.cell? ⟨w.heap.size + 1, y.pl, none⟩ = some (.int .i64 (y.no : Int)) := by
              rw [arw_cell (unhide HW).nb (by rw [Hx.nxL_len]; exact hpl), Hx.nxL_get _ hpl, unhide HYN]
            have nf := blk_free (unhide HW).nb
            have hplI : (y.pl : Int) < 4 := by omega
            have hpl0 : (0 : Int) ≤ (y.pl : Int) := by omega
            have HW2 : Hid (InO w P (fun p => if p = y.pl then nx p + 1 else nx p) (.slice oa o.length oc) o (wr.setCell ⟨w.heap.size + 1, y.pl, none⟩ (.int .i64 ((y.no : Int) + 1)))) := by
              have h := (unhide HW).set hpl
              rw [unhide HYN] at h
              exact h
            go_upto_region 28 with fail
            generalize wr.setCell ⟨w.heap.size + 1, y.pl, none⟩ (.int .i64 ((y.no : Int) + 1)) = wy at HW2 ⊢
            have HROW2 : Hid (wy.ownsRow (w.heap.size + 1 + 1) 3 1 (.slice oa k oc) k (ints (nats o))) := by rw [unhide HK]; exact (unhide HW2).ow
            have hszy : w.heap.size + 1 + 1 ≤ wy.heap.size := by have := lt_of_block (unhide HW2).nb; omega
            clear x0 n0 nf HW p3
            go_wp2_with (at_builtin; refine wpList_append_own _ rfl _ _ 49 rfl (w.heap.size + 1 + 1) 3 i0 (.int .i64 0) 1 8 Tryd.underlying49 (unhide HI) (unhide HZ0) (unhide HZ1) (unhide HZ2) rfl (by decide) _ _ _ rfl ((unhide HROW2).alloc _) ⟨wy.heap.size, 0, none⟩ 1 1 [.int .i64 (j : Int)] rfl rfl ?c1 ?c2 ?c3 ?c4 ?c5 ?_)
            case c1 => exact news_new wy [.int .i64 (j : Int)] 3
            case c2 => intro u hu; rw [List.mem_singleton.1 hu]; rfl
            case c3 => unfold maxLen; omega
            case c4 => omega
            case c5 => simp; omega
            · intro v' w6 hown' hgrow _
              have HNEW : Hid (InO w P (fun p => if p = y.pl then nx p + 1 else nx p) v' (o ++ [j]) w6) := by
                have hlt := fun q e => ((unhide HROW2).lt q e).1
                have h1 : ∀ q, q ≤ w.heap.size + 1 → some q ≠ (Value.slice oa k oc).ownBlock := fun q hq e => by have := hlt q e.symm; omega
                refine ⟨?_, ?_, ?_, ?_⟩
                · exact blk_kept (bA _ (unhide HW2).pb) hgrow (h1 _ (by omega))
                · exact blk_kept (bA _ (unhide HW2).nb) hgrow (h1 _ (by omega))
                · rw [snoc_nats, List.length_append]
                  rw [unhide HK] at hown'
                  exact hown'
                · exact (belA _ (unhide HW2).be).grown hgrow (by simp; omega) (fun q e => by have := hlt q e; omega)
              clear hown' hgrow
              go_wp2_with fail
              go_roundg (n - (k + 1))
              case measure => have := unhide HK; omega
              case rel =>
                have hk := unhide HK
                refine ⟨o ++ [j], op, _, by rw [List.length_append]; show o.length + 1 ≤ n; omega, by rw [List.length_append, hk]; rfl, rfl, unhide HES2, ?_, ?_, fun i hi => ?_, unhide HNEW⟩
                · rw [List.length_append, ← hk]; exact (unhide HOB).1
                · rw [List.length_append, ← hk]; exact (unhide HOB).2
                · rcases List.mem_append.1 hi with h | h
                  · exact unhide HIN i h
                  · rw [List.mem_singleton.1 h]; exact hjn
    · have hltI : ¬ (k : Int) < (n : Int) := by omega
      go_wp2_with fail
      go_returns
      refine ⟨_, rfl, Or.inr ⟨o, by rw [← unhide HK, ← unhide HNL]; omega, by rw [unhide HES]; rfl, fun i hi => by rw [← unhide HNL]; exact unhide HIN i hi, ?_⟩, (unhide HW).be⟩
      have h := own_mono (unhide HW).ow (Nat.zero_le _)
      rw [unhide HK]
      exact h
end Go.Proofs.YtppcnlkhdgmaiaaDoor
namespace Go.Proofs.YtppcnlkhdgmaiaaDoor
open Go.ChangeShapes Go.WideShapes Go.ChangeAt Go.RowKit Go.Deep

set_option maxRecDepth 100000 in
theorem int_open {H : Type} {enc : TypeId × Value → H} {W : World} {b off i n : Nat} {cs : List Value} {x : DataW H × List MemPlace} {spare : Nat → Bool} {held : Bool}
    (h1 : W.cells? 0 ((⟨b, off, none⟩ : Addr).add (i * Tryd.prog.cellsOf 3)) (Tryd.prog.cellsOf 3) = some cs) (h2 : DataW.trod enc Tryd.prog W 0 spare held n 3 cs = some x) :
    ∃ z : Int, I64 z ∧ W.cell? ⟨b, off + i, none⟩ = some (.int .i64 z) := by
  rw [cells3, Nat.mul_one] at h1
  obtain ⟨_, hlen, hcell⟩ := World.cells?_some h1
  match cs, hlen with
  | [v0], _ =>
    obtain ⟨q0, e0, _, w0⟩ := DataW.trod_int Tryd.underlying3 h2
    simp at e0
    subst e0
    have c := hcell 0 (by omega)
    rw [addr_at] at c
    exact ⟨q0, i64_wf w0, c⟩
set_option maxRecDepth 100000 in
/-- A row of numbers that comes in. -/
theorem ints_open {H : Type} {enc : TypeId × Value → H} {W : World} {base : Nat} {v : Value} {d : DataW H} {p : List MemPlace} {held : Bool} (hv : Value.okWide Tryd.prog W .any base 49 v)
    (h : DataW.Trod enc Tryd.prog W 0 (fun _ => true) held 49 v d p) : ∃ zs, IntsR W v zs := by
  obtain ⟨va, vl, vc, rfl⟩ := okWide_slice Tryd.underlying49 hv
  obtain ⟨fuel, hf⟩ := h
  have key : ∃ v' zs, (Value.slice va vl vc).cells.toList = [v'] ∧ IntsR W v' zs := by
    rcases open_slice Tryd.underlying49 hf with ⟨hcs, _⟩ | ⟨a, len, cap, m, n, D, Pl, hcs, _, hl, hm, hmm, _, hx⟩
    · exact ⟨_, [], hcs, none, 0, rfl, Nat.zero_le _, fun i x hx => by simp at hx⟩
    · simp at hmm
      subst hmm
      obtain ⟨b, off, spot⟩ := a
      by_cases hz : len = 0
      · subst hz
        exact ⟨_, [], hcs, _, _, rfl, Nat.zero_le _, fun i x hx => by simp at hx⟩
      · obtain ⟨cs0, g0, _⟩ := hx 0 (by omega)
        have hsp := spot_none (by rw [cells3]; omega) g0
        subst hsp
        obtain ⟨f, hf⟩ := choose_lt (n := len) (fun i hi => by
          obtain ⟨cs', g1, g2⟩ := hx i (by omega)
          exact int_open g1 g2)
        refine ⟨_, (List.range len).map f, hcs, some ⟨b, off, none⟩, m, by simp, by simp; omega, fun i r hi => ?_⟩
        obtain ⟨hi', rfl⟩ := map_at hi
        exact ⟨(hf i hi').1, b, off, rfl, (hf i hi').2⟩
  obtain ⟨v', zs, e, hz⟩ := key
  simp [Value.cells] at e
  rw [e]
  exact ⟨zs, hz⟩
end Go.Proofs.YtppcnlkhdgmaiaaDoor
namespace Go.Proofs.YtppcnlkhdgmaiaaDoor
open Go.RowKit

/-- What was over was so within bounds. -/
def OvOk (m : Hx.Ms) : Prop := ∀ p ∈ m.sts, ∀ v, p.2 = some v → v ≤ 2000000
/-- What a look comes to. -/
structure LkOk (l : List Hx.TStp) (r : Nat × Hx.Ms) : Prop where
  lt : r.1 < 6
  k : 2 ≤ r.1 → r.2.k < l.length
  ok : MOk l r.2
  ov : OvOk r.2

theorem oneM_ov {l : List Hx.TStp} {J : Nat} {takes : List Nat} {m : Hx.Ms} (h : MOk l m) (ho : OvOk m) (hk : ∀ n ∈ takes, n < 1000) : OvOk (Hx.oneM l J takes m).2 := by
  unfold Hx.oneM
  cases hx : l[m.k]? with
  | none => exact ho
  | some x =>
    simp only
    split
    · rename_i hw
      obtain ⟨h1, h2⟩ := h.work hw
      have hb : Hx.beganM m ≤ 1000000 := by
        rw [Hx.beganM, List.getD_eq_getElem?_getD, List.getElem?_eq_getElem (by omega)]
        exact h.sts _ (List.getElem_mem _)
      have hkt : takes.getD m.k 0 < 1000 := by
        rw [List.getD_eq_getElem?_getD]
        cases ht : takes[m.k]? with
        | none => simp
        | some n => exact hk n (List.mem_of_getElem? ht)
      have hsts : ∀ p ∈ m.sts.set m.k (Hx.beganM m, some (Hx.beganM m + takes.getD m.k 0)), ∀ v, p.2 = some v → v ≤ 2000000 := fun p hp v hv => by
        rcases mem_set hp with rfl | hp
        · have hv : some (Hx.beganM m + takes.getD m.k 0) = some v := hv
          cases hv
          omega
        · exact ho p hp v hv
      split
      · unfold Hx.finishM
        split
        · exact hsts
        · split
          · exact hsts
          · exact hsts
      · split <;> exact ho
    · split
      · exact ho
      · unfold Hx.beginM
        split
        · exact ho
        · split
          · exact ho
          · intro p hp v hv
            rcases List.mem_append.1 hp with hp | hp
            · exact ho p hp v hv
            · rw [List.mem_singleton.1 hp] at hv; cases hv
theorem oneM_out {l : List Hx.TStp} {J : Nat} {takes : List Nat} {m m' : Hx.Ms} {e : Nat} (h : Hx.oneM l J takes m = (some e, m')) : e < 6 ∧ (2 ≤ e → m'.k < l.length) := by
  unfold Hx.oneM at h
  cases hx : l[m.k]? with
  | none =>
    rw [hx] at h
    simp only at h
    cases h
    split <;> exact ⟨by omega, fun g => by omega⟩
  | some x =>
    have hkl : m.k < l.length := (List.getElem?_eq_some_iff.1 hx).1
    rw [hx] at h
    simp only at h
    split at h
    · split at h
      · unfold Hx.finishM at h
        split at h
        · cases h; exact ⟨by omega, fun _ => hkl⟩
        · split at h
          · cases h; exact ⟨by omega, fun _ => hkl⟩
          · cases h
      · split at h
        · cases h; exact ⟨by omega, fun _ => hkl⟩
        · cases h; exact ⟨by omega, fun _ => hkl⟩
    · split at h
      · cases h; exact ⟨by omega, fun _ => hkl⟩
      · unfold Hx.beginM at h
        split at h
        · cases h; exact ⟨by omega, fun _ => hkl⟩
        · split at h
          · cases h; exact ⟨by omega, fun _ => hkl⟩
          · cases h
theorem lookM_lk {l : List Hx.TStp} {J : Nat} {takes : List Nat} (hk : ∀ n ∈ takes, n < 1000) : ∀ (n : Nat) (m : Hx.Ms), Hx.muM l m = n → MOk l m → OvOk m → LkOk l (Hx.lookM l J takes m) := by
  intro n
  induction n using Nat.strongRecOn with
  | ind n ih =>
    intro m hn h ho
    have h1 := oneM_ok (J := J) h hk
    have h2 := oneM_ov (J := J) h ho hk
    cases hq : Hx.oneM l J takes m with
    | mk r m' =>
      rw [hq] at h1 h2
      cases r with
      | none =>
        rw [Hx.lookM_none hq]
        exact ih _ (by have := Hx.oneM_mu hq; omega) m' rfl h1 h2
      | some e =>
        rw [Hx.lookM_some hq]
        obtain ⟨a, b⟩ := oneM_out hq
        exact ⟨a, b, h1, h2⟩
theorem runM_lk {l : List Hx.TStp} {J : Nat} {takes : List Nat} (hk : ∀ n ∈ takes, n < 1000) : ∀ (cs : List Nat) (r : Nat × Hx.Ms), r.2.time + cs.sum ≤ 1000000 → LkOk l r → LkOk l (Hx.runM l J takes cs r) := by
  intro cs
  induction cs with
  | nil => intro r _ h; exact h
  | cons c cs ih =>
    intro r ht h
    rw [List.sum_cons] at ht
    by_cases h0 : r.1 = 0
    · rw [Hx.runM_cons h0]
      refine ih _ ?_ (lookM_lk hk _ _ rfl (h.ok.later c (by omega)) h.ov)
      rw [lookM_time _ _ rfl]
      show r.2.time + c + cs.sum ≤ _
      omega
    · rw [Hx.runM_end h0]; exact h
theorem start_ok (l : List Hx.TStp) : MOk l Hx.startM := by
  refine ⟨(fun g => by cases g), fun _ => ⟨Nat.zero_le _, rfl⟩, Nat.zero_le _, (fun p hp => by cases hp), rfl, ?_⟩
  intro r hr
  simp [Hx.startM] at hr
  omega
theorem mach_lk {l : List Hx.TStp} {J : Nat} {clock takes : List Nat} (hk : ∀ n ∈ takes, n < 1000) (hc : clock.sum ≤ 1000000) : LkOk l (Hx.machF l J clock takes) := by
  refine runM_lk hk clock _ ?_ (lookM_lk hk _ _ rfl (start_ok l) (fun p hp => by cases hp))
  rw [lookM_time _ _ rfl]
  show 0 + _ ≤ _
  omega
theorem LkOk.len {l r} (h : LkOk l r) : r.2.sts.length ≤ l.length := by
  cases hw : r.2.work
  · have := h.ok.free hw; omega
  · have := h.ok.work hw; omega
theorem LkOk.st {l r} (h : LkOk l r) : ∀ p ∈ r.2.sts, p.1 ≤ 3000000 ∧ ∀ v, p.2 = some v → v ≤ 3000000 := fun p hp =>
  ⟨Nat.le_trans (h.ok.sts p hp) (by omega), fun v hv => Nat.le_trans (h.ov p hp v hv) (by omega)⟩

end Go.Proofs.YtppcnlkhdgmaiaaDoor
namespace Go.Proofs.YtppcnlkhdgmaiaaDoor
open Go.RowKit

theorem Hx.pnumsF_bad {s : ByteArray} {st : Hx.St} (h : st.bad = true) : (Hx.pnumsF s st).2 = st := by
  by_cases hd : 48 ≤ Hx.byteAt s st.pos ∧ Hx.byteAt s st.pos ≤ 57
  · rw [Hx.pnumsF, if_pos hd, if_pos h]
  · rw [Hx.pnumsF, if_neg hd]
theorem Hx.pnumsF_le {s : ByteArray} {st : Hx.St} (h : st.pos ≤ s.size) : (Hx.pnumsF s st).2.pos ≤ s.size := by
  unfold Hx.pnumsF
  split
  · split
    · exact h
    · exact Hx.numsF_le _ st [] rfl h
  · exact h
def Hx.psc1 (s : ByteArray) : List Nat × Hx.St := Hx.pnumsF s ⟨0, false⟩
def Hx.psc2 (s : ByteArray) : List Nat × Hx.St := Hx.pnumsF s (Hx.takeF s 47 (Hx.psc1 s).2)

theorem Hx.numsF_nodigit {s : ByteArray} {st : Hx.St} (h : st.bad = false) (hd : ¬ (48 ≤ Hx.byteAt s st.pos ∧ Hx.byteAt s st.pos ≤ 57)) : (Hx.numsF s st []).2.bad = true := by
  rw [Hx.numsF_cont h, Hx.numF_no h hd, Hx.contF_no (by simp)]
theorem Hx.numbersF_bad {s : ByteArray} {c : Nat} {st : Hx.St} (h : st.bad = true) : (Hx.numbersF s c st).2.bad = true := by
  unfold Hx.numbersF
  split
  · exact h
  · rw [Hx.numsF, if_pos h]; exact h
/-- The second list, behind the same beginning. -/
theorem Hx.second_is (s : ByteArray) (st : Hx.St) : (!(Hx.pnumsF s st).2.bad && (Hx.pnumsF s st).2.pos == s.size) = (!(Hx.numbersF s 0 st).2.bad && (Hx.numbersF s 0 st).2.pos == s.size) ∧ ((!(Hx.numbersF s 0 st).2.bad && (Hx.numbersF s 0 st).2.pos == s.size) = true → (Hx.pnumsF s st).1 = (Hx.numbersF s 0 st).1) := by
  cases hb : st.bad
  · by_cases he : st.pos = s.size
    · have hd : ¬ (48 ≤ Hx.byteAt s st.pos ∧ Hx.byteAt s st.pos ≤ 57) := by rw [Hx.byteAt_ge (by omega)]; omega
      have e1 : Hx.pnumsF s st = ([], st) := if_neg hd
      have e2 : Hx.numbersF s 0 st = ([], st) := if_pos (Or.inl ⟨rfl, he⟩)
      rw [e1, e2]; exact ⟨rfl, fun _ => rfl⟩
    · have e2 : Hx.numbersF s 0 st = Hx.numsF s st [] := if_neg (by omega)
      by_cases hd : 48 ≤ Hx.byteAt s st.pos ∧ Hx.byteAt s st.pos ≤ 57
      · have e1 : Hx.pnumsF s st = Hx.numsF s st [] := by rw [Hx.pnumsF, if_pos hd, if_neg (by simp [hb])]
        rw [e1, e2]; exact ⟨rfl, fun _ => rfl⟩
      · have e1 : Hx.pnumsF s st = ([], st) := if_neg hd
        have e3 := Hx.numsF_nodigit hb hd
        rw [e1, e2, e3]
        have e4 : (st.pos == s.size) = false := by simpa using he
        simp only [e4, Bool.and_false, Bool.not_true, Bool.false_and]
        exact ⟨trivial, fun h => by cases h⟩
  · rw [Hx.pnumsF_bad hb, Hx.numbersF_bad hb, hb]
    exact ⟨rfl, fun h => by cases h⟩
theorem Hx.script_is (s : ByteArray) : (!(Hx.psc2 s).2.bad && (Hx.psc2 s).2.pos == s.size) = Hx.scrOk s ∧ (Hx.scrOk s = true → (Hx.psc1 s).1 = (Hx.scr1 s).1 ∧ (Hx.psc2 s).1 = (Hx.scr2 s).1) := by
  by_cases hd : 48 ≤ Hx.byteAt s 0 ∧ Hx.byteAt s 0 ≤ 57
  · have e1 : Hx.psc1 s = Hx.scr1 s := by
      have a1 : Hx.psc1 s = Hx.numsF s ⟨0, false⟩ [] := by rw [Hx.psc1, Hx.pnumsF, if_pos hd, if_neg (by simp)]
      have a2 : Hx.scr1 s = Hx.numsF s ⟨0, false⟩ [] := if_neg (by simp only; omega)
      rw [a1, a2]
    have h2 := Hx.second_is s (Hx.takeF s 47 (Hx.scr1 s).2)
    rw [Hx.psc2, e1]
    exact ⟨h2.1, fun h => ⟨rfl, h2.2 h⟩⟩
  · by_cases h47 : Hx.byteAt s 0 = 47
    · have e1 : Hx.psc1 s = Hx.scr1 s := by
        have a1 : Hx.psc1 s = ([], ⟨0, false⟩) := if_neg hd
        have a2 : Hx.scr1 s = ([], ⟨0, false⟩) := if_pos (Or.inr ⟨by decide, h47⟩)
        rw [a1, a2]
      have h2 := Hx.second_is s (Hx.takeF s 47 (Hx.scr1 s).2)
      rw [Hx.psc2, e1]
      exact ⟨h2.1, fun h => ⟨rfl, h2.2 h⟩⟩
    · have a1 : Hx.psc1 s = ([], ⟨0, false⟩) := if_neg hd
      have b1 : (Hx.takeF s 47 (Hx.psc1 s).2).bad = true := by rw [a1, Hx.takeF_no h47]
      have b2 : (Hx.psc2 s).2.bad = true := by rw [Hx.psc2, Hx.pnumsF_bad b1]; exact b1
      have a2 : Hx.scr1 s = Hx.numsF s ⟨0, false⟩ [] := if_neg (by simp only; omega)
      have b3 : (Hx.scr1 s).2.bad = true := by rw [a2]; exact Hx.numsF_nodigit rfl hd
      have b4 : (Hx.scr2 s).2.bad = true := by
        rw [Hx.scr2]
        exact Hx.numbersF_bad (by rw [Hx.takeF_bad b3]; exact b3)
      have b5 : Hx.scrOk s = false := by rw [Hx.scrOk, b4]; rfl
      rw [b2, b5]
      exact ⟨rfl, fun h => by cases h⟩

set_option maxRecDepth 100000 in
set_option maxHeartbeats 4000000 in
theorem readscript_any (s : ByteArray) (w : World) (hs : s.size ≤ 800) (ht : Tab w) :
    Calls Tryd.prog 42 #[.string s] w fun e w' => Below w.heap.size w w' ∧
      ((Hx.scrOk s = false ∧ e = .returned (.tuple #[.agg #[.slice none 0 0, .slice none 0 0], .bool false])) ∨
       (Hx.scrOk s = true ∧ (Hx.scr1 s).1.length ≤ 801 ∧ (Hx.scr2 s).1.length ≤ 801 ∧ ∃ v1 v2, e = .returned (.tuple #[.agg #[v1, v2], .bool true]) ∧ w'.ownsRow w.heap.size 3 1 v1 (Hx.scr1 s).1.length (ints (nats (Hx.scr1 s).1)) ∧ w'.ownsRow w.heap.size 3 1 v2 (Hx.scr2 s).1.length (ints (nats (Hx.scr2 s).1)))) := by
  have hs1 : s.size ≤ 1000 := by omega
  have hN : 1 < w.heap.size := ht.pos
  have HT := hide ht
  have HIS := hide (Hx.script_is s)
  have P1 : Hid ((Hx.psc1 s).2.pos ≤ s.size) := Hx.pnumsF_le (Nat.zero_le _)
  have P2 : Hid ((Hx.takeF s 47 (Hx.psc1 s).2).pos ≤ s.size) := Hx.takeF_le (by omega) P1.out
  have P3 : Hid ((Hx.psc2 s).2.pos ≤ s.size) := Hx.pnumsF_le P2.out
  clear ht
  go_enter Tryd.func42, Tryd.ntmps42
  go_upto_region 2 with fail
  have HB0 := hide (bA (.cells #[.string s, .int .i64 0, .bool false] 147) (blk_new w #[.slice none 0 0, .slice none 0 0] 109))
  have hsz : (w.alloc (.cells #[.slice none 0 0, .slice none 0 0] 109)).heap.size = w.heap.size + 1 := by simp
  have HRD0 : Hid (Rd 147 s (w.heap.size + 1) ⟨0, false⟩ ((w.alloc (.cells #[.slice none 0 0, .slice none 0 0] 109)).alloc (.cells #[.string s, .int .i64 0, .bool false] 147))) := by
    have := blk_new (w.alloc (.cells #[.slice none 0 0, .slice none 0 0] 109)) #[.string s, .int .i64 0, .bool false] 147
    rw [hsz] at this
    exact this
  have HBE0 := hide (belA (.cells #[.string s, .int .i64 0, .bool false] 147) (belA (.cells #[.slice none 0 0, .slice none 0 0] 109) (Below.refl w.heap.size w)))
  have hsz2 : ((w.alloc (.cells #[.slice none 0 0, .slice none 0 0] 109)).alloc (.cells #[.string s, .int .i64 0, .bool false] 147)).heap.size = w.heap.size + 2 := by simp
  generalize (w.alloc (.cells #[.slice none 0 0, .slice none 0 0] 109)).alloc (.cells #[.string s, .int .i64 0, .bool false] 147) = wa at *
  clear hsz
  go_wp2_with fail
  refine (pnums_any s (w.heap.size + 1) ⟨0, false⟩ wa hs1 (Nat.zero_le _) (by omega) ((unhide HT).below (unhide HBE0)) (unhide HRD0)).mono ?_
  rintro e w1 ⟨v1, rfl, hown1, hlen1, hr1, hg1⟩
  have HOWN1 : Hid (w1.ownsRow (w.heap.size + 2) 3 1 v1 (Hx.psc1 s).1.length (ints (nats (Hx.psc1 s).1))) := by
    show World.ownsRow _ _ _ _ _ _ _
    rw [hsz2] at hown1; exact hown1
  have HL1 : Hid ((Hx.psc1 s).1.length ≤ s.size + 1) := hlen1
  have HR1 : Hid (Rd 147 s (w.heap.size + 1) (Hx.psc1 s).2 w1) := hr1
  have HB1 := hide (blk_kept (unhide HB0) hg1 (by simp))
  have HBE1 := hide ((unhide HBE0).grown hg1 (unhide HBE0).size (by simp))
  have HSZ1 := hide hg1.size
  clear hown1 hlen1 hr1 hg1 HB0 HRD0 HBE0
  go_wp2_with fail
  refine (take_any s (w.heap.size + 1) (Hx.psc1 s).2 _ 47 _ hs1 P1.out rfl (by omega) (unhide HR1)).mono ?_
  rintro e w2 ⟨rfl, hr2, hg2⟩
  have HR2 := hide hr2
  have HB2 := hide (blk_kept (unhide HB1) hg2 (by simp))
  have HBE2 := hide ((unhide HBE1).grown hg2 (unhide HBE1).size (by simp))
  have HOWN2 := hide ((unhide HOWN1).kept hg2 (own_ne (unhide HOWN1) (by omega)))
  have HSZ2 : Hid (w.heap.size + 2 ≤ w2.heap.size) := by have := unhide HSZ1; have := hg2.size; show _ ≤ _; omega
  clear hr2 hg2 HR1 HB1 HBE1 HOWN1 HSZ1
  go_wp2_with fail
  refine (pnums_any s (w.heap.size + 1) (Hx.takeF s 47 (Hx.psc1 s).2) w2 hs1 P2.out (by omega) ((unhide HT).below (unhide HBE2)) (unhide HR2)).mono ?_
  rintro e w3 ⟨v2, rfl, hown3, hlen3, hr3, hg3⟩
  have HOWN3 : Hid (w3.ownsRow (w.heap.size + 2) 3 1 v2 (Hx.psc2 s).1.length (ints (nats (Hx.psc2 s).1))) := own_mono hown3 (unhide HSZ2)
  have HL3 : Hid ((Hx.psc2 s).1.length ≤ s.size + 1) := hlen3
  have HR3 : Hid (Rd 147 s (w.heap.size + 1) (Hx.psc2 s).2 w3) := hr3
  have HB3 := hide (blk_kept (unhide HB2) hg3 (by simp))
  have HBE3 := hide ((unhide HBE2).grown hg3 (unhide HBE2).size (by simp))
  have HOWN1 := hide ((unhide HOWN2).kept hg3 (own_ne (unhide HOWN2) (by omega)))
  have d2 := (unhide HR3).c2
  have e0 : w3.cell? ⟨w.heap.size, 0, none⟩ = some (.slice none 0 0) := blk_cell (unhide HB3) 0
  have e1 : w3.cell? ⟨w.heap.size, 1, none⟩ = some (.slice none 0 0) := blk_cell (unhide HB3) 1
  have ef := blk_free (unhide HB3)
  obtain ⟨a1, c1, rfl⟩ := own_form (unhide HOWN1)
  obtain ⟨a2, c2, rfl⟩ := own_form (unhide HOWN3)
  have hle := Nat.le_refl w.heap.size
  clear hown3 hlen3 hr3 hg3 HB2 HBE2 HOWN2 HR2 HB3 P1 P2
  cases hbad : (Hx.psc2 s).2.bad
  · rw [hbad] at d2
    by_cases hend : s.size ≤ (Hx.psc2 s).2.pos
    · have HOK : Hid (Hx.scrOk s = true) := by
        show _ = _
        rw [← (unhide HIS).1, hbad]
        have : (Hx.psc2 s).2.pos = s.size := by have := P3.out; omega
        simp [this]
      have HE := hide hend
      clear hbad hend
      go_wp2_with (go_at_call 62; refine (ended_yes s _ (Hx.psc2 s).2 _ hs1 P3.out HE.out (unhide HR3)).mono ?_; rintro e w7 ⟨rfl, n7, rfl⟩)
      refine bodyPost_ret (v := .tuple #[.agg #[.slice a1 (Hx.psc1 s).1.length c1, .slice a2 (Hx.psc2 s).1.length c2], .bool true]) (by simp [results, Tryd.results42, go_sem, e0, e1]) rfl ?_
      obtain ⟨q1, q2⟩ := (unhide HIS).2 (unhide HOK)
      rw [← q1, ← q2]
      refine ⟨((below_drewN (unhide HBE3) n7).setCell hle _).setCell hle _, Or.inr ⟨unhide HOK, by have := unhide HL1; omega, by have := unhide HL3; omega, _, _, rfl, ?_, ?_⟩⟩
      · exact own_mono (own_set_low (own_set_low ((unhide HOWN1).kept (grown_drewN _ n7 (some 0)) (own_ne (unhide HOWN1) (by omega))) (by omega) _ _) (by omega) _ _) (by omega)
      · exact own_mono (own_set_low (own_set_low ((unhide HOWN3).kept (grown_drewN _ n7 (some 0)) (own_ne (unhide HOWN3) (by omega))) (by omega) _ _) (by omega) _ _) (by omega)
    · have HOK : Hid (Hx.scrOk s = false) := by
        show _ = _
        rw [← (unhide HIS).1, hbad]
        have : ((Hx.psc2 s).2.pos == s.size) = false := by rw [beq_eq_false_iff_ne]; omega
        simp [this]
      have HE : Hid ((Hx.psc2 s).2.pos < s.size) := show _ < _ by omega
      clear hbad hend
      go_wp2_with (go_at_call 62; refine (ended_no s _ (Hx.psc2 s).2 _ hs1 P3.out HE.out (unhide HR3)).mono ?_; rintro e w7 ⟨rfl, n7, rfl⟩)
      refine bodyPost_ret (v := .tuple #[.agg #[.slice none 0 0, .slice none 0 0], .bool false]) (by simp [results, Tryd.results42, go_sem, e0, e1]) rfl ?_
      exact ⟨((below_drewN (unhide HBE3) n7).setCell hle _).setCell hle _, Or.inl ⟨unhide HOK, rfl⟩⟩
  · rw [hbad] at d2
    have HOK : Hid (Hx.scrOk s = false) := by
      show _ = _
      rw [← (unhide HIS).1, hbad]; rfl
    clear hbad
    go_wp2_with fail
    refine bodyPost_ret (v := .tuple #[.agg #[.slice none 0 0, .slice none 0 0], .bool false]) (by simp [results, Tryd.results42, go_sem, e0, e1]) rfl ?_
    exact ⟨((unhide HBE3).setCell hle _).setCell hle _, Or.inl ⟨unhide HOK, rfl⟩⟩

end Go.Proofs.YtppcnlkhdgmaiaaDoor
namespace Go.Proofs.YtppcnlkhdgmaiaaDoor
open Go.RowKit

theorem own_block_lt {w : World} {base : Nat} {e : TypeId} {size : Nat} {v : Value} {n : Nat} {xs : List Value} (h : w.ownsRow base e size v n xs) {b : Nat} (hb : w.heap.size ≤ b) : v.ownBlock = none ∨ v.ownBlock ≠ some b := by
  cases ho : v.ownBlock with
  | none => exact Or.inl rfl
  | some k =>
    have := (h.lt k ho).2
    exact Or.inr (fun e => by cases e; omega)

/-- The machine as Run makes it. -/
theorem start_mem (w : World) (J : Nat) (tv cv kv : Value) (l : List Hx.TStp) (clock takes : List Nat) (ht : w.ownsRow 0 153 11 tv l.length (ptsCells l)) (hc : w.ownsRow 0 3 1 cv clock.length (ints (nats clock))) (hk : w.ownsRow 0 3 1 kv takes.length (ints (nats takes)))
    (hok : ∀ y ∈ l, Hx.TOk y) (hll : l.length ≤ 401) (hcl : clock.length ≤ 1000) (hkl : takes.length ≤ 1000) (hkn : ∀ n ∈ takes, n < 1000) (hj : J < 10) :
    Stat ⟨w.heap.size, J, tv, cv, kv, l, clock, takes⟩ (w.alloc (.cells #[.int .i64 (J : Int), tv, cv, kv, .int .i64 0, .int .i64 0, .bool false, .slice none 0 0, .int .i64 0, .int .i64 0, .int .i64 0, .int .i64 0] 115)) ∧
    Mem ⟨w.heap.size, J, tv, cv, kv, l, clock, takes⟩ (w.alloc (.cells #[.int .i64 (J : Int), tv, cv, kv, .int .i64 0, .int .i64 0, .bool false, .slice none 0 0, .int .i64 0, .int .i64 0, .int .i64 0, .int .i64 0] 115)) (w.alloc (.cells #[.int .i64 (J : Int), tv, cv, kv, .int .i64 0, .int .i64 0, .bool false, .slice none 0 0, .int .i64 0, .int .i64 0, .int .i64 0, .int .i64 0] 115)) Hx.startM (.slice none 0 0) (stsCells Hx.startM.sts) := by
  refine ⟨⟨by simp, ht.alloc _, own_block_lt ht (Nat.le_refl _), hc.alloc _, own_block_lt hc (Nat.le_refl _), hk.alloc _, own_block_lt hk (Nat.le_refl _), hok, hll, hcl, hkl, hkn, hj⟩, ⟨blk_new w _ _, World.ownsRow_nil _ _ _ _, World.grownBy.refl _ _⟩⟩

end Go.Proofs.YtppcnlkhdgmaiaaDoor
namespace Go.Proofs.YtppcnlkhdgmaiaaDoor
open Go.RowKit

set_option maxRecDepth 100000 in
set_option maxHeartbeats 4000000 in
theorem run_any (s t : ByteArray) (w : World) (hs : s.size ≤ maxLen) (ht : t.size ≤ maxLen) (htab : Tab w) (hon : Onm w) (hp : P10 w) :
    Calls Tryd.prog 27 #[.string s, .string t] w fun e w' => e = .returned (.tuple #[.string ⟨(Hx.refRunF s t).1.toArray⟩, .int .i64 (Hx.refRunF s t).2]) ∧ Below w.heap.size w w' := by
  obtain ⟨FIN, hFIN⟩ : ∃ FIN, FIN = Hx.refRunF s t := ⟨_, rfl⟩
  rw [← hFIN]
  have HLK := hide (looked_any s w hs htab)
  have HTAB := hide htab
  have HON := hide hon
  have HP := hide hp
  unfold maxLen at hs ht
  clear htab hon hp
  go_enter Tryd.func27, Tryd.ntmps27
  by_cases hb1 : 400 < s.size
  · have HF : Hid (FIN = ([], 1)) := by show _ = _; rw [hFIN, Hx.refRunF, if_pos (Or.inl hb1)]
    have hbI : (400 : Int) < (s.size : Int) := by omega
    clear hFIN hb1
    go_wp2_with fail
    go_returns
    exact ⟨by rw [unhide HF]; rfl, Below.refl _ _⟩
  · have hbI : ¬ (400 : Int) < (s.size : Int) := by omega
    by_cases hb2 : 800 < t.size
    · have HF : Hid (FIN = ([], 1)) := by show _ = _; rw [hFIN, Hx.refRunF, if_pos (Or.inr hb2)]
      have hbJ : (800 : Int) < (t.size : Int) := by omega
      clear hFIN hb1 hb2
      go_wp2_with fail
      go_returns
      exact ⟨by rw [unhide HF]; rfl, Below.refl _ _⟩
    · have hbJ : ¬ (800 : Int) < (t.size : Int) := by omega
      have ht8 : t.size ≤ 800 := by omega
      have hF2 : FIN = if (Hx.lookF s).1 ≠ 0 then ([], (Hx.lookF s).1) else if Hx.scrOk t = false then ([], 10) else (Hx.refGo (Hx.lookL (Hx.scr1 t).1) (Hx.theadF s).1 (Hx.scr2 t).1 (Hx.tableF s).2 0 0 [] [0, 0, 0, 0], 0) := by rw [hFIN, Hx.refRunF, if_neg (by omega)]
      have HF2 := hide hF2
      clear hFIN hF2 hb1 hb2
      go_wp2_with fail
      refine (unhide HLK).mono ?_
      rintro e w1 ⟨hbe, ⟨hne, rfl⟩ | ⟨he, hs4, hbad, hwr, hlen, v, rfl, hown⟩⟩
      · have HF : Hid (FIN = ([], (Hx.lookF s).1)) := by show _ = _; rw [unhide HF2, if_pos hne]
        have hneb : ((Hx.lookF s).1 != 0) = true := by simpa using hne
        have HBE := hide hbe
        clear hbe hne HF2
        go_wp2_with fail
        go_returns
        exact ⟨by rw [unhide HF]; rfl, (unhide HBE).alloc (unhide HBE).size _⟩
      · have HF3 : Hid (FIN = if Hx.scrOk t = false then ([], 10) else (Hx.refGo (Hx.lookL (Hx.scr1 t).1) (Hx.theadF s).1 (Hx.scr2 t).1 (Hx.tableF s).2 0 0 [] [0, 0, 0, 0], 0)) := by show _ = _; rw [unhide HF2, if_neg (by rw [he]; exact fun h => h rfl)]
        have HRT := hide (Hx.right_of hwr)
        have hJ10 : (Hx.theadF s).1 < 10 := Hx.numF_val s 1 _
        obtain ⟨l, hl⟩ : ∃ l, l = (Hx.tableF s).2 := ⟨_, rfl⟩
        obtain ⟨J, hJ⟩ : ∃ J, J = (Hx.theadF s).1 := ⟨_, rfl⟩
        rw [← hl] at hown hlen HRT HF3
        rw [← hJ] at hJ10 HF3 ⊢
        obtain ⟨a1, c1, rfl⟩ := own_form hown
        have HOWN := hide ((own_mono hown (Nat.zero_le _)).alloc (.cells #[.int .i64 (J : Int), .slice a1 l.length c1] 103))
        have HBE := hide (belA (.cells #[.int .i64 (J : Int), .slice a1 l.length c1] 103) hbe)
        have HTB := hide (bN #[.int .i64 (J : Int), .slice a1 l.length c1] 103 (w := w1) rfl)
        clear hbe hown he hbad hwr hl hJ HF2 HLK
        go_upto_region 4 with fail
        obtain ⟨tb, htb⟩ : ∃ tb, tb = w1.heap.size := ⟨_, rfl⟩
        rw [← htb] at HTB ⊢
        clear htb
        generalize w1.alloc (.cells #[.int .i64 (J : Int), .slice a1 l.length c1] 103) = w2 at *
        go_wp2_with fail
        refine (readscript_any t w2 ht8 ((unhide HTAB).below (unhide HBE))).mono ?_
        rintro e w3 ⟨hb3, ⟨hok, rfl⟩ | ⟨hok, hl1, hl2, v1, v2, rfl, hv1, hv2⟩⟩
        · have HF : Hid (FIN = ([], 10)) := by show _ = _; rw [unhide HF3, if_pos hok]
          have HB3 := hide (blB hb3 (unhide HBE))
          clear hb3 hok HF3
          go_wp2_with fail
          go_returns
          exact ⟨by rw [unhide HF]; rfl, (unhide HB3).alloc (unhide HB3).size _⟩
        · obtain ⟨clock, hck⟩ : ∃ clock, clock = (Hx.scr1 t).1 := ⟨_, rfl⟩
          obtain ⟨takes, htk⟩ : ∃ takes, takes = (Hx.scr2 t).1 := ⟨_, rfl⟩
          have htl : ∀ v ∈ takes, v < 1000 := by rw [htk]; exact fun v hv => Hx.numbersF_lt v hv
          have hcs : clock.sum ≤ 1000000 := by
            have := sum_le_mul (Hx.scr1 t).1 (fun v hv => Hx.numbersF_lt v hv)
            rw [hck]
            omega
          rw [← hck] at hv1 hl1 HF3
          rw [← htk] at hv2 hl2 HF3
          have HF : Hid (FIN = (Hx.tellF l (Hx.machF l J clock takes), 0)) := by
            show _ = _
            rw [unhide HF3, if_neg (by rw [hok]; decide), Hx.machine_is (unhide HRT)]; rfl
          obtain ⟨ca, cc, rfl⟩ := own_form hv1
          obtain ⟨ka, kc, rfl⟩ := own_form hv2
          have HV1 := hide ((own_mono hv1 (Nat.zero_le _)).alloc (.cells #[.slice ca clock.length cc, .slice ka takes.length kc] 109))
          have HV2 := hide ((own_mono hv2 (Nat.zero_le _)).alloc (.cells #[.slice ca clock.length cc, .slice ka takes.length kc] 109))
          have HOW := hide ((own_below (unhide HOWN) hb3).alloc (.cells #[.slice ca clock.length cc, .slice ka takes.length kc] 109))
          have HB4 := hide (belA (.cells #[.slice ca clock.length cc, .slice ka takes.length kc] 109) (blB hb3 (unhide HBE)))
          have HTB4 := hide (bA (.cells #[.slice ca clock.length cc, .slice ka takes.length kc] 109) (bBl hb3 (unhide HTB)))
          have HSB := hide (bN #[.slice ca clock.length cc, .slice ka takes.length kc] 109 (w := w3) rfl)
          have HTL := hide htl
          have HCS := hide hcs
          clear hb3 hok hv1 hv2 hck htk htl hcs HF3 HOWN HBE HTB
          go_upto_region 7 with fail
          obtain ⟨sb, hsb⟩ : ∃ sb, sb = w3.heap.size := ⟨_, rfl⟩
          rw [← hsb] at HSB ⊢
          clear hsb
          generalize w3.alloc (.cells #[.slice ca clock.length cc, .slice ka takes.length kc] 109) = w4 at *
          have t0 : w4.cell? ⟨tb, 0, none⟩ = some (.int .i64 (J : Int)) := blk_cell (unhide HTB4) 0
          have t1 : w4.cell? ⟨tb, 1, none⟩ = some (.slice a1 l.length c1) := blk_cell (unhide HTB4) 1
          have s0 : w4.cell? ⟨sb, 0, none⟩ = some (.slice ca clock.length cc) := blk_cell (unhide HSB) 0
          have s1 : w4.cell? ⟨sb, 1, none⟩ = some (.slice ka takes.length kc) := blk_cell (unhide HSB) 1
          have HSM := hide (start_mem w4 J (.slice a1 l.length c1) (.slice ca clock.length cc) (.slice ka takes.length kc) l clock takes (unhide HOW) (unhide HV1) (unhide HV2) (unhide HRT).ok hlen (by omega) (by omega) (unhide HTL) hJ10)
          have HRUN := hide (mrun_any _ _ _ _ _ (unhide HSM).1 (unhide HSM).2 (start_ok l) (by show 0 + clock.sum ≤ 1000000; have hh : clock.sum ≤ 1000000 := unhide HCS; omega))
          have HLKO := hide (mach_lk (l := l) (J := J) (unhide HTL) (unhide HCS))
          go_upto_region 10 with fail
          go_wp2_with fail
          refine (unhide HRUN).mono ?_
          rintro e w6 ⟨rfl, sv, hm6⟩
          have hg6 := hm6.gr
          have HB6 : Hid (Below w.heap.size w w6) := by
            have h1 := (unhide HB4).alloc (unhide HB4).size (.cells #[.int .i64 (J : Int), .slice a1 l.length c1, .slice ca clock.length cc, .slice ka takes.length kc, .int .i64 0, .int .i64 0, .bool false, .slice none 0 0, .int .i64 0, .int .i64 0, .int .i64 0, .int .i64 0] 115)
            exact h1.grown hg6 h1.size (fun k e => by cases e; exact (unhide HB4).size)
          have HM6 := hide hm6
          clear hm6 hg6
          have HW := hide (mwrite_any _ _ w6 _ sv _ (unhide HSM).1 (unhide HM6) (unhide HLKO).lt (unhide HLKO).k (unhide HLKO).len (unhide HLKO).st ((unhide HON).below (unhide HB6)) ((unhide HP).below (unhide HB6)))
          go_wp2_with fail
          refine (unhide HW).mono ?_
          rintro e w7 ⟨rfl, hb7⟩
          have HB7 := hide (blB hb7 (unhide HB6))
          clear hb7
          go_wp2_with fail
          go_returns
          rw [unhide HF]
          exact ⟨rfl, unhide HB7⟩

end Go.Proofs.YtppcnlkhdgmaiaaDoor
namespace Go.Proofs.YtppcnlkhdgmaiaaDoor
open Go.RowKit

/-- What Run wants of memory: the two tables, and the library's powers of ten. -/
def RunE (w : World) : Prop := Tab w ∧ Onm w ∧ P10 w
theorem lasts_run : Lasts RunE := fun _ _ h hb => ⟨h.1.below hb, h.2.1.below hb, h.2.2.below hb⟩

end Go.Proofs.YtppcnlkhdgmaiaaDoor
namespace Go.Proofs.YtppcnlkhdgmaiaaDoor
open Go.ChangeShapes Go.WideShapes Go.ChangeAt Go.RowKit Go.Deep

theorem gOnm : Tryd.prog.globalNamed "hatch/hatch.outcomeNames" = some 0 := by kernel_rfl
theorem gOnmType : (Tryd.prog.globals[0]?).map (·.type) = some 151 := by kernel_rfl
theorem cellsOnm : Tryd.prog.cellsOf 151 = 12 := by kernel_rfl
theorem cellsOn1 : Tryd.prog.cellsOf 150 = 2 := by kernel_rfl
theorem cells4 : Tryd.prog.cellsOf 4 = 1 := by kernel_rfl
theorem gP10 : Tryd.prog.globalNamed "internal/strconv.uint64pow10" = some 2 := by kernel_rfl
theorem gP10Type : (Tryd.prog.globals[2]?).map (·.type) = some 198 := by kernel_rfl
theorem cellsP10 : Tryd.prog.cellsOf 198 = 20 := by kernel_rfl
theorem cellsU64 : Tryd.prog.cellsOf 185 = 1 := by kernel_rfl

/-- The table of outcomes, as the row lists it. -/
def onmData : DataW Unit := .agg ((List.range 6).map fun i => .agg [.lit (.string (Hx.outB i)), .lit (.bool (decide (2 ≤ i)))])

set_option maxRecDepth 100000 in
theorem onm_of {W : World} (h : laidMet Tryd.prog [("hatch/hatch.outcomeNames", onmData)] W) : Onm W := by
  obtain ⟨ps, ⟨g', t', cs, fuel, p, q, hg', ht', hvar, hd, _, _⟩, _⟩ := h
  obtain rfl := Option.some.inj (gOnm.symm.trans hg')
  obtain rfl := Option.some.inj (gOnmType.symm.trans ht')
  intro i hi
  cases fuel with
  | zero => simp [DataW.trod] at hd
  | succ n =>
    simp only [DataW.trod, Tryd.underlying151, cellsOnm, cellsOn1] at hd
    split at hd
    · rename_i hl
      obtain ⟨xs, hm, hx⟩ := Option.map_eq_some_iff.1 hd
      obtain ⟨b, hb, hf⟩ := Lib.mapM_at hm i i (by simp [hi])
      have hxs : xs.map (·.1) = (List.range 6).map fun i => (DataW.agg [.lit (.string (Hx.outB i)), .lit (.bool (decide (2 ≤ i)))] : DataW Unit) := by
        have := congrArg Prod.fst hx
        simpa [onmData] using this
      have hbd : b.1 = DataW.agg [.lit (.string (Hx.outB i)), .lit (.bool (decide (2 ≤ i)))] := by
        have h2 : (xs.map (·.1))[i]? = some b.1 := by simp [hb]
        rw [hxs] at h2
        simp [List.getElem?_map, List.getElem?_range hi] at h2
        exact h2.symm
      obtain ⟨ys, k, _, hye, _, hyl, hf2⟩ := DataW.trod_struct Tryd.underlying150 hf
      have g0 := hf2 0 _ rfl
      have g1 := hf2 1 _ rfl
      match ys, hyl with
      | [y0, y1], _ =>
        simp [cells9, cells4] at g0 g1
        obtain ⟨s, es, rfl, _⟩ := DataW.trod_string Tryd.underlying9 g0
        obtain ⟨b1, eb, rfl⟩ := DataW.trod_bool Tryd.underlying4 g1
        rw [hye] at hbd
        simp at hbd
        obtain ⟨h1, h2⟩ := hbd
        have c0 := World.var?_cell gOnm hvar (i * 2)
        have c1 := World.var?_cell gOnm hvar (i * 2 + 1)
        have k0 : cs.toList[i * 2]? = some (.string s) := by
          have := congrArg (·[0]?) es
          simpa [List.getElem?_take, List.getElem?_drop] using this
        have k1 : cs.toList[i * 2 + 1]? = some (.bool b1) := by
          have := congrArg (·[0]?) eb
          simpa [List.getElem?_take, List.getElem?_drop] using this
        have hs : s = ⟨(Hx.outB i).toArray⟩ := by
          cases s with
          | mk d => simp at h1; simp [← h1]
        constructor
        · rw [c0, ← hs]; simpa using k0
        · rw [c1, ← h2]; simpa using k1
    · cases hd

/-- What a row's list gives: the tables' cells. -/
theorem run_table {L : List (String × DataW Unit)} {W : World} (h0 : laidMet Tryd.prog L W)
    (e1 : L.filter (fun x => x.1 == "hatch/hatch.byteKinds") = [("hatch/hatch.byteKinds", Lib.tabData .u8 tabNums)])
    (e2 : L.filter (fun x => x.1 == "hatch/hatch.outcomeNames") = [("hatch/hatch.outcomeNames", onmData)])
    (e3 : L.filter (fun x => x.1 == "internal/strconv.uint64pow10") = [("internal/strconv.uint64pow10", Lib.tabData .u64 Lib.pow10Tab)]) : RunE W := by
  refine ⟨?_, ?_, ?_⟩
  · have h00 := h0.filter (fun x => x.1 == "hatch/hatch.byteKinds")
    rw [e1] at h00
    have h1 : Lib.TabIs Tryd.prog W "hatch/hatch.byteKinds" .u8 tabNums := Lib.tabIs_of_head (rest := []) gTab gTabType Tryd.underlying189 Tryd.underlying5 cellsU8 cells189 h00
    intro i hi
    have h2 := h1.cell gTab i (by simpa [tabNums] using hi)
    rw [tabNums_kind i hi] at h2
    exact h2
  · have h00 := h0.filter (fun x => x.1 == "hatch/hatch.outcomeNames")
    rw [e2] at h00
    exact onm_of h00
  · have h00 := h0.filter (fun x => x.1 == "internal/strconv.uint64pow10")
    rw [e3] at h00
    exact Lib.tabIs_of_head (rest := []) gP10 gP10Type Tryd.underlying198 Tryd.underlying185 cellsU64 cellsP10 h00

end Go.Proofs.YtppcnlkhdgmaiaaDoor
