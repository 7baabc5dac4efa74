/- What the law does at a step that is a Check. What looked and Look answer: the table, or the error and its place. What the program's reader of scripts does: numbers, readScript. What the program's readScript does. Small parts of the document's side: End, first, joined. How the document reads a list of numbers: numbers. How the document reads a script: numbers, Script. How the document reads a script: Script. What the document's looks does: the times at which the machine looks at its clock. What the document's Run needs: names and numbers as they are written; where a look is. -/
import Derived.Test.YtppcnlkhdgmaiaaDoorCPg
import Derived.Test.YtppcnlkhdgmaiaaDoorCRfF
import Derived.Test.YtppcnlkhdgmaiaaDoorCRtD
import Derived.Test.YtppcnlkhdgmaiaaDoorCRgI
import Derived.Test.YtppcnlkhdgmaiaaDoorCPlU
import Derived.BigQuiet
import Derived.Test.YtppcnlkhdgmaiaaDoorCRmA
import Derived.Deep.RegionLaw
import Derived.Lib.Strings
namespace Go.Proofs.YtppcnlkhdgmaiaaDoor
open Go.RowKit

end Go.Proofs.YtppcnlkhdgmaiaaDoor
namespace Go.Proofs.YtppcnlkhdgmaiaaDoor
open Go.RowKit

/-- What looked answers. -/
def LkRes (s : ByteArray) (w : World) (e : Ending) (w' : World) : Prop := Below w.heap.size w w' ∧
  (((Hx.lookF s).1 ≠ 0 ∧ e = .returned (.tuple #[.agg #[.int .i64 0, .slice none 0 0], .int .i64 (Hx.lookF s).1, .int .i64 (Hx.lookF s).2])) ∨
   (Hx.lookF s = (0, 0) ∧ s.size ≤ 400 ∧ (Hx.tableF s).1.bad = false ∧ Hx.wrongF (Hx.tableF s).2 0 = (0, 0) ∧ (Hx.tableF s).2.length ≤ 401 ∧ ∃ v, e = .returned (.tuple #[.agg #[.int .i64 ((Hx.theadF s).1 : Int), v], .int .i64 0, .int .i64 0]) ∧ w'.ownsRow w.heap.size 153 11 v (Hx.tableF s).2.length (ptsCells (Hx.tableF s).2)))

theorem wrongF_cases (l : List Hx.TStp) (k : Nat) : Hx.wrongF l k = (0, 0) ∨ ∃ j : Nat, Hx.wrongF l k = (9, (j : Int)) := by
  induction k using Hx.wrongF.induct (l := l) with
  | case1 k hk hr ih => rw [Hx.wrongF_step hk, if_pos hr]; exact ih
  | case2 k hk hr => rw [Hx.wrongF_step hk, if_neg hr]; exact Or.inr ⟨k, rfl⟩
  | case3 k hk => rw [Hx.wrongF_end hk]; exact Or.inl rfl

theorem own_set_low {w : World} {base : Nat} {e : TypeId} {size : Nat} {v : Value} {n : Nat} {xs : List Value} (h : w.ownsRow base e size v n xs) {k : Nat} (hk : k < base) (o : Nat) (x : Value) : (w.setCell ⟨k, o, none⟩ x).ownsRow base e size v n xs := h.kept (grown_set w k o x) (own_ne h hk)

set_option maxRecDepth 100000 in
set_option maxHeartbeats 4000000 in
theorem looked_any (s : ByteArray) (w : World) (hs : s.size ≤ maxLen) (ht : Tab w) : Calls Tryd.prog 40 #[.string s] w (LkRes s w) := by
  unfold maxLen at hs
  have HT := hide ht
  clear ht
  obtain ⟨R, hR⟩ : ∃ R, R = LkRes s w := ⟨_, rfl⟩
  rw [← hR]
  have HR := hide hR
  clear hR
  go_enter Tryd.func40, Tryd.ntmps40
  by_cases hb : 400 < s.size
  · have HE : Hid (Hx.lookF s = (1, 0)) := if_pos hb
    have hbI : (400 : Int) < (s.size : Int) := by omega
    clear hb
    go_wp2_with fail
    refine bodyPost_ret (v := .tuple #[.agg #[.int .i64 0, .slice none 0 0], .int .i64 1, .int .i64 0]) (by simp [results, Tryd.results40, go_sem]) rfl ?_
    rw [unhide HR]
    refine ⟨(Below.refl _ _).alloc (Nat.le_refl _) _, Or.inl ⟨by rw [unhide HE]; decide, by rw [unhide HE]⟩⟩
  · have HE : Hid (Hx.lookF s = if (Hx.tableF s).1.bad then (2, ((Hx.tableF s).1.pos : Int)) else Hx.wrongF (Hx.tableF s).2 0) := if_neg hb
    have hbI : ¬ (400 : Int) < (s.size : Int) := by omega
    have hs4 : s.size ≤ 400 := by omega
    clear hb
    have HRD := hide (readtable_any s (w.alloc (.cells #[.int .i64 0, .slice none 0 0] 103)) hs4 ((unhide HT).alloc _))
    have HB0 := hide (blk_new w #[.int .i64 0, .slice none 0 0] 103)
    have HBE0 := hide (belA (.cells #[.int .i64 0, .slice none 0 0] 103) (Below.refl w.heap.size w))
    have hsz : (w.alloc (.cells #[.int .i64 0, .slice none 0 0] 103)).heap.size = w.heap.size + 1 := by simp
    go_wp2_with fail
    refine (unhide HRD).mono ?_
    rintro e w1 ⟨hbe, ⟨hbad, rfl⟩ | ⟨hbad, v, rfl, hown, hlen⟩⟩
    · have HE2 : Hid (Hx.lookF s = (2, ((Hx.tableF s).1.pos : Int))) := by show _ = _; rw [unhide HE, hbad]; rfl
      have HB1 := hide ((hbe.block _ (lt_of_block (unhide HB0))).trans (unhide HB0))
      have HBE := hide ((unhide HBE0).trans (hbe.mono (unhide HBE0).size))
      clear hbe hbad HE HRD HB0 HBE0
      have e0 : ∀ o, (w1.alloc o).cell? ⟨w.heap.size, 0, none⟩ = some (.int .i64 0) := fun o => cA o (blk_cell (unhide HB1) 0)
      have e1 : ∀ o, (w1.alloc o).cell? ⟨w.heap.size, 1, none⟩ = some (.slice none 0 0) := fun o => cA o (blk_cell (unhide HB1) 1)
      have ef : ∀ o k, (w1.alloc o).frozen? ⟨w.heap.size, k, none⟩ = false := fun o k => blk_free (bA o (unhide HB1)) k
      go_wp2_with fail
      refine bodyPost_ret (v := .tuple #[.agg #[.int .i64 0, .slice none 0 0], .int .i64 2, .int .i64 ((Hx.tableF s).1.pos : Int)]) (by simp [results, Tryd.results40, go_sem, e0, e1]) rfl ?_
      rw [unhide HR]
      refine ⟨?_, Or.inl ⟨by rw [unhide HE2]; exact (by decide : (2 : Int) ≠ 0), by rw [unhide HE2]⟩⟩
      have hle := Nat.le_refl w.heap.size
      exact (((unhide HBE).alloc (unhide HBE).size _).setCell hle _).setCell hle _
    · have HE2 : Hid (Hx.lookF s = Hx.wrongF (Hx.tableF s).2 0) := by show _ = _; rw [unhide HE, hbad]; rfl
      obtain ⟨l, hl⟩ : ∃ l, l = (Hx.tableF s).2 := ⟨_, rfl⟩
      obtain ⟨J, hJ⟩ : ∃ J, J = (Hx.theadF s).1 := ⟨_, rfl⟩
      have HOK : Hid (∀ y ∈ l, Hx.TOk y) := by rw [hl]; exact Hx.tableF_ok s
      rw [← hl] at hown hlen HE2
      rw [← hJ]
      have HL := hide hl
      have HJ := hide hJ
      have HBAD := hide hbad
      clear HE hbad hl hJ
      obtain ⟨ao, cap, rfl⟩ := own_form hown
      have HB1 := hide (bA (.cells #[.int .i64 (J : Int), .slice ao l.length cap] 103) ((hbe.block _ (lt_of_block (unhide HB0))).trans (unhide HB0)))
      have HBE := hide (belA (.cells #[.int .i64 (J : Int), .slice ao l.length cap] 103) ((unhide HBE0).trans (hbe.mono (unhide HBE0).size)))
      have HT1 := hide (bN #[.int .i64 (J : Int), .slice ao l.length cap] 103 (w := w1) rfl)
      rw [hsz] at hown
      have HOWN := hide (hown.alloc (.cells #[.int .i64 (J : Int), .slice ao l.length cap] 103))
      have htb : w.heap.size < w1.heap.size := by have := hbe.size; omega
      clear hbe HRD HB0 HBE0 hown hsz
      go_upto_region 6 with fail
      obtain ⟨tb, htb2⟩ : ∃ tb, tb = w1.heap.size := ⟨_, rfl⟩
      rw [← htb2] at HT1 htb ⊢
      clear htb2
      generalize w1.alloc (.cells #[.int .i64 (J : Int), .slice ao l.length cap] 103) = w2 at *
      have t1 : w2.cell? ⟨tb, 1, none⟩ = some (.slice ao l.length cap) := blk_cell (unhide HT1) 1
      go_wp2_with fail
      refine (notright_any l _ w2 (own_mono (unhide HOWN) (Nat.zero_le _)) hlen (unhide HOK)).mono ?_
      rintro e w3 ⟨rfl, hb3⟩
      have HB3 := hide ((hb3.block _ (lt_of_block (unhide HB1))).trans (unhide HB1))
      have HT3 := hide ((hb3.block _ (lt_of_block (unhide HT1))).trans (unhide HT1))
      have HBE3 := hide ((unhide HBE).trans (hb3.mono (unhide HBE).size))
      have HOWN3 := hide (own_below (unhide HOWN) hb3)
      clear hb3 HB1 HT1 HBE HOWN t1
      have e0 : w3.cell? ⟨w.heap.size, 0, none⟩ = some (.int .i64 0) := blk_cell (unhide HB3) 0
      have e1 : w3.cell? ⟨w.heap.size, 1, none⟩ = some (.slice none 0 0) := blk_cell (unhide HB3) 1
      have ef : ∀ k, w3.frozen? ⟨w.heap.size, k, none⟩ = false := fun k => blk_free (unhide HB3) k
      have t0 : w3.cell? ⟨tb, 0, none⟩ = some (.int .i64 (J : Int)) := blk_cell (unhide HT3) 0
      have t1 : w3.cell? ⟨tb, 1, none⟩ = some (.slice ao l.length cap) := blk_cell (unhide HT3) 1
      have hle := Nat.le_refl w.heap.size
      rcases wrongF_cases l 0 with hw | ⟨j, hw⟩
      · have HW := hide hw
        rw [hw]
        clear hw
        have hf : ((0 : Int) != 0) = false := by decide
        go_wp2_with fail
        refine bodyPost_ret (v := .tuple #[.agg #[.int .i64 (J : Int), .slice ao l.length cap], .int .i64 0, .int .i64 0]) (by simp [results, Tryd.results40, go_sem, e0, e1]) rfl ?_
        rw [unhide HR]
        refine ⟨((unhide HBE3).setCell hle _).setCell hle _, Or.inr ⟨by rw [unhide HE2, unhide HW], hs4, unhide HBAD, by rw [← unhide HL]; exact unhide HW, by rw [← unhide HL]; exact hlen, _, by rw [← unhide HJ], ?_⟩⟩
        rw [← unhide HL]
        exact own_mono (own_set_low (own_set_low (unhide HOWN3) (by omega) _ _) (by omega) _ _) (by omega)
      · have HW := hide hw
        rw [hw]
        clear hw
        have hf : ((9 : Int) != 0) = true := by decide
        go_wp2_with fail
        refine bodyPost_ret (v := .tuple #[.agg #[.int .i64 0, .slice none 0 0], .int .i64 9, .int .i64 (j : Int)]) (by simp [results, Tryd.results40, go_sem, e0, e1]) rfl ?_
        rw [unhide HR]
        refine ⟨((unhide HBE3).setCell hle _).setCell hle _, Or.inl ⟨by rw [unhide HE2, unhide HW]; exact (by decide : (9 : Int) ≠ 0), by rw [unhide HE2, unhide HW]⟩⟩

set_option maxHeartbeats 2000000 in
theorem look_any (s : ByteArray) (w : World) (hs : s.size ≤ maxLen) (ht : Tab w) :
    Calls Tryd.prog 20 #[.string s] w fun e w' => e = .returned (.tuple #[.int .i64 (Hx.lookF s).1, .int .i64 (Hx.lookF s).2]) ∧ Below w.heap.size w w' := by
  have HL := hide (looked_any s w hs ht)
  clear hs ht
  go_enter Tryd.func20, Tryd.ntmps20
  go_wp2_with fail
  refine (unhide HL).mono ?_
  rintro e w1 ⟨hbe, ⟨_, rfl⟩ | ⟨he, _, _, _, _, v, rfl, hown⟩⟩
  · have HBE := hide hbe
    clear hbe
    go_wp2_with fail
    go_returns
    exact ⟨rfl, (unhide HBE).alloc (unhide HBE).size _⟩
  · obtain ⟨ao, cap, rfl⟩ := own_form hown
    have HBE := hide hbe
    have HE := hide he
    clear hbe hown he
    go_wp2_with fail
    go_returns
    exact ⟨by rw [unhide HE]; rfl, (unhide HBE).alloc (unhide HBE).size _⟩

end Go.Proofs.YtppcnlkhdgmaiaaDoor
namespace Go.Proofs.YtppcnlkhdgmaiaaDoor
open Go.RowKit

/-- Numbers with commas, as the program reads them. -/
def Hx.pnumsF (s : ByteArray) (st : Hx.St) : List Nat × Hx.St := if 48 ≤ Hx.byteAt s st.pos ∧ Hx.byteAt s st.pos ≤ 57 then (if st.bad = true then ([0], st) else Hx.numsF s st []) else ([], st)

/-- What is read behind a number. -/
def Hx.contF (s : ByteArray) (st : Hx.St) (acc : List Nat) : List Nat × Hx.St := if st.bad = false ∧ Hx.byteAt s st.pos = 44 then Hx.numsF s ⟨st.pos + 1, false⟩ acc else (acc, st)
theorem Hx.numsF_cont {s : ByteArray} {st : Hx.St} {acc : List Nat} (h : st.bad = false) : Hx.numsF s st acc = Hx.contF s (Hx.numF s 3 st).2 (acc ++ [(Hx.numF s 3 st).1]) := by
  rw [Hx.numsF, if_neg (by simp [h]), Hx.contF]
  by_cases hc : (Hx.numF s 3 st).2.bad = false ∧ Hx.byteAt s (Hx.numF s 3 st).2.pos = 44
  · have e : Hx.nextF s 44 (Hx.numF s 3 st).2 = (true, ⟨(Hx.numF s 3 st).2.pos + 1, false⟩) := if_pos hc
    rw [dif_pos (by rw [e]), e, if_pos hc]
  · have e := Hx.nextF_no hc
    rw [dif_neg (by rw [e]; exact Bool.false_ne_true), e, if_neg hc]
theorem Hx.contF_on {s : ByteArray} {st : Hx.St} {acc : List Nat} (h : st.bad = false) (h2 : Hx.byteAt s st.pos = 44) : Hx.contF s st acc = Hx.contF s (Hx.numF s 3 ⟨st.pos + 1, false⟩).2 (acc ++ [(Hx.numF s 3 ⟨st.pos + 1, false⟩).1]) := by
  rw [Hx.contF, if_pos ⟨h, h2⟩, Hx.numsF_cont rfl]
theorem Hx.contF_no {s : ByteArray} {st : Hx.St} {acc : List Nat} (h : ¬ (st.bad = false ∧ Hx.byteAt s st.pos = 44)) : Hx.contF s st acc = (acc, st) := if_neg h
theorem Hx.pnumsF_cont {s : ByteArray} {st : Hx.St} (hd : 48 ≤ Hx.byteAt s st.pos ∧ Hx.byteAt s st.pos ≤ 57) : Hx.pnumsF s st = Hx.contF s (Hx.numF s 3 st).2 [(Hx.numF s 3 st).1] := by
  rw [Hx.pnumsF, if_pos hd]
  cases hb : st.bad
  · rw [if_neg (by decide), Hx.numsF_cont hb]; rfl
  · rw [if_pos rfl, Hx.numF_bad hb, Hx.contF_no (by simp [hb])]

theorem snoc_nats (acc : List Nat) (n : Nat) : ints (nats (acc ++ [n])) = ints (nats acc) ++ [.int .i64 (n : Int)] := by simp [nats, ints]

set_option maxRecDepth 100000 in
set_option maxHeartbeats 4000000 in
theorem pnums_any (s : ByteArray) (b : Nat) (st : Hx.St) (w : World) (hs : s.size ≤ 1000) (hp : st.pos ≤ s.size) (hb : 1 < b) (ht : Tab w) (hr : Rd 147 s b st w) :
    Calls Tryd.prog 60 #[.pointer (some ⟨b, 0, none⟩)] w fun e w' => ∃ v, e = .returned v ∧ w'.ownsRow w.heap.size 3 1 v (Hx.pnumsF s st).1.length (ints (nats (Hx.pnumsF s st).1)) ∧ (Hx.pnumsF s st).1.length ≤ s.size + 1 ∧ Rd 147 s b (Hx.pnumsF s st).2 w' ∧ w.grownBy w' (some b) := by
  obtain ⟨i0, hi, hz0, hz1, hz2⟩ := info_parts Tryd.info3
  have HI := hide hi
  have HZ0 := hide hz0
  have HZ1 := hide hz1
  have HZ2 := hide hz2
  have HT : Hid (Tab w) := ht
  have HR : Hid (Rd 147 s b st w) := hr
  have HB : Hid (b < w.heap.size) := hr.lt
  clear hi hz0 hz1 hz2 ht hr
  go_enter Tryd.func60, Tryd.ntmps60
  by_cases hd : 48 ≤ Hx.byteAt s st.pos ∧ Hx.byteAt s st.pos ≤ 57
  · obtain ⟨kv, hkv, hk12⟩ : ∃ kv : Int, (Hx.kindOf (Hx.byteAt s st.pos) : Int) = kv ∧ (kv = 1 ∨ kv = 2) := by
      refine ⟨_, rfl, ?_⟩
      by_cases h0 : Hx.byteAt s st.pos = 48
      · exact Or.inl (by rw [(Hx.kindOf_one _).2 h0]; rfl)
      · exact Or.inr (by rw [(Hx.kindOf_two _).2 (by omega)]; rfl)
    have HKV := hide hkv
    have hP := Hx.pnumsF_cont hd
    have hnle := Hx.numF_le (s := s) (m := 3) (st := st) hp
    obtain ⟨⟨n0, st0⟩, hn0⟩ : ∃ r, Hx.numF s 3 st = r := ⟨_, rfl⟩
    have HN := hide (number_any s b st 3 3 (w.drewN 0) hs hp (by omega) rfl hb (Tab.drewN HT.out _) (Rd.drewN HR.out _))
    have HNUM := hide (fun n => number_any s b st 3 3 (w.drewN n) hs hp (by omega) rfl hb (Tab.drewN HT.out _) (Rd.drewN HR.out _))
    rw [hn0] at hP hnle HNUM
    have HP := hide hP
    simp only at hnle
    clear HN hn0
    clear hkv hd hP
    rcases hk12 with rfl | rfl
    all_goals
      go_wp2_with (first | (go_at_call 80; refine (kind_val s b st _ _ hs hp (unhide HKV) HT.out HR.out).mono ?_; rintro e w1 ⟨rfl, n1, rfl⟩) | (go_at_call 65; refine (unhide HNUM _).mono ?_; rintro e w2 ⟨rfl, hr2, hg2⟩; have HR2 := hide hr2; have HG2 := hide (grown_trans (grown_drewN _ _ _) hg2); clear hr2 hg2))
      have hown0 := World.ownsRow_lit (base := w.heap.size) (e := 3) (size := 1) w2 #[Value.int IntKind.i64 (n0 : Int)] 1 (unhide HG2).size (by unfold maxLen; omega) rfl
      have HOWN0 := hide hown0
      clear hown0 HKV HNUM
      go_loopg [4] (s.size - st0.pos) (fun gk v wr => ∃ (st' : Hx.St) (acc : List Nat), st'.pos ≤ s.size ∧ gk = s.size - st'.pos ∧ acc.length ≤ st'.pos + 1 ∧ wr.ownsRow w.heap.size 3 1 v acc.length (ints (nats acc)) ∧ Rd 147 s b st' wr ∧ w.grownBy wr (some b) ∧ Hx.contF s st' acc = Hx.pnumsF s st)
      case atStart => exact ⟨st0, [n0], hnle, rfl, by simp, unhide HOWN0, Rd.alloc (unhide HR2) _, grown_trans (unhide HG2) (grown_alloc _ _ _), (unhide HP).symm⟩
      case round =>
        clear HOWN0 HR2 HG2 HP
        obtain ⟨st', acc, hpos, rfl, hlen, hown, hrd, hgr, hfin⟩ := hrel
        have HOWN := hide hown
        have HRD := hide hrd
        have HGR := hide hgr
        have HTR : Hid (Tab wr) := HT.out.grown hb hgr
        have c2 := hrd.c2
        have hsz : Hid (w.heap.size ≤ wr.heap.size) := hgr.size
        clear hown hrd hgr
        cases hbad : st'.bad
        · rw [hbad] at c2
          by_cases h44 : Hx.byteAt s st'.pos = 44
          · rw [Hx.contF_on hbad h44] at hfin
            have hk := hide (show ((Hx.kindOf (Hx.byteAt s st'.pos) : Nat) : Int) = 5 by rw [(Hx.kindOf_five _).2 h44]; rfl)
            have hlt : st'.pos < s.size := Hx.byteAt_in (by omega)
            have htk := hide (Hx.takeF_yes hbad h44)
            have hge := Hx.numF_ge s 3 ⟨st'.pos + 1, false⟩
            have hle := Hx.numF_le (s := s) (m := 3) (st := ⟨st'.pos + 1, false⟩) (by show st'.pos + 1 ≤ _; omega)
            have HNUM := hide (fun W hT hR => number_any s b ⟨st'.pos + 1, false⟩ 3 3 W hs (by show st'.pos + 1 ≤ _; omega) (by omega) rfl hb hT hR)
            obtain ⟨⟨n5, st5⟩, hn5⟩ : ∃ r, Hx.numF s 3 ⟨st'.pos + 1, false⟩ = r := ⟨_, rfl⟩
            rw [hn5] at hfin hge hle HNUM
            simp only at hge hle
            have HFIN := hide hfin
            clear hbad h44 hfin hn5
            go_wp2_with fail
            refine (kind_val s b st' _ _ hs hpos (unhide hk) HTR.out (unhide HRD)).mono ?_
            rintro e w4 ⟨rfl, n4, rfl⟩
            go_wp2_with fail
            refine (take_any s b st' _ 44 _ hs hpos rfl (by omega) (Rd.drewN (unhide HRD) _)).mono ?_
            rintro e w4 ⟨rfl, hr4, hg4⟩
            rw [unhide htk] at hr4
            have HR4 := hide hr4
            have HT4 : Hid (Tab w4) := (Tab.drewN HTR.out _).grown hb hg4
            have HG4 := hide (grown_trans (grown_drewN wr _ _) hg4)
            clear hr4 hg4
            go_wp2_with fail
            refine (unhide HNUM _ HT4.out (unhide HR4)).mono ?_
            rintro e w5 ⟨rfl, hr5, hg5⟩
            have HR5 := hide hr5
            have HG5 := hide (grown_trans (unhide HG4) hg5)
            have HOWN5 := hide ((unhide HOWN).kept (unhide HG5) (own_ne (unhide HOWN) HB.out))
            clear hr5 hg5 HOWN HRD HG4 HR4 HT4 HTR HNUM
            go_wp2_with (at_builtin; refine wpList_append_own _ rfl _ _ 49 rfl w.heap.size 3 i0 (.int .i64 0) 1 8 Tryd.underlying49 (unhide HI) (unhide HZ0) (unhide HZ1) (unhide HZ2) rfl (by decide) _ _ _ rfl ((unhide HOWN5).alloc _) ⟨w5.heap.size, 0, none⟩ 1 1 [.int .i64 (n5 : Int)] rfl rfl ?c1 ?c2 ?c3 ?c4 ?c5 ?_)
            case c1 => exact news_new w5 [.int .i64 (n5 : Int)] 3
            case c2 => intro u hu; rw [List.mem_singleton.1 hu]; rfl
            case c3 => unfold maxLen; omega
            case c4 => omega
            case c5 => have := hsz.out; have := (unhide HG5).size; simp; omega
            · intro v' w6 hown' hgrow _
              have HOWN6 := hide hown'
              have HGROW := hide hgrow
              clear hown' hgrow
              go_wp2_with fail
              go_roundg (s.size - st5.pos)
              case measure => omega
              case rel =>
                refine ⟨st5, acc ++ [n5], hle, rfl, by simp; omega, ?_, ?_, ?_, unhide HFIN⟩
                · rw [snoc_nats, List.length_append]; exact unhide HOWN6
                · exact ((unhide HR5).alloc _).kept (unhide HGROW) (fun e => by rcases own_ne (unhide HOWN5) HB.out with h | h <;> simp_all)
                · exact grown_own (grown_trans (unhide HGR) (grown_trans (unhide HG5) (grown_alloc _ _ _))) (unhide HGROW) (fun k e => ((unhide HOWN5).lt k e).1)
          · rw [Hx.contF_no (fun g => h44 g.2)] at hfin
            have HFIN := hide hfin
            obtain ⟨kv, hkv, hk1⟩ : ∃ kv : Int, (Hx.kindOf (Hx.byteAt s st'.pos) : Int) = kv ∧ (kv == 5) = false := by
              refine ⟨_, rfl, ?_⟩
              rw [beq_eq_false_iff_ne]; intro e; exact h44 ((Hx.kindOf_five (Hx.byteAt s st'.pos)).1 (by omega))
            have HKV := hide hkv
            clear h44 hkv hbad hfin
            go_wp2_with fail
            refine (kind_val s b st' _ _ hs hpos (unhide HKV) HTR.out (unhide HRD)).mono ?_
            rintro e w4 ⟨rfl, n4, rfl⟩
            go_wp2_with fail
            go_returns
            rw [← unhide HFIN]
            exact ⟨_, rfl, unhide HOWN, by show acc.length ≤ _; omega, unhide HRD, grown_trans (unhide HGR) (grown_drewN _ _ _)⟩
        · rw [hbad] at c2
          rw [Hx.contF_no (by simp [hbad])] at hfin
          have HFIN := hide hfin
          clear hfin hbad
          go_wp2_with fail
          go_returns
          rw [← unhide HFIN]
          exact ⟨_, rfl, unhide HOWN, by show acc.length ≤ _; omega, unhide HRD, unhide HGR⟩
  · obtain ⟨kv, hkv, hk1, hk2⟩ : ∃ kv : Int, (Hx.kindOf (Hx.byteAt s st.pos) : Int) = kv ∧ (kv != 1) = true ∧ (kv != 2) = true := by
      refine ⟨_, rfl, ?_, ?_⟩
      · rw [bne_iff_ne]; intro e; have := (Hx.kindOf_one (Hx.byteAt s st.pos)).1 (by omega); omega
      · rw [bne_iff_ne]; intro e; have := (Hx.kindOf_two (Hx.byteAt s st.pos)).1 (by omega); omega
    have HKV := hide hkv
    have HP : Hid (Hx.pnumsF s st = ([], st)) := if_neg hd
    clear hkv hd
    go_wp2_with (go_at_call 80; refine (kind_val s b st _ _ hs hp (unhide HKV) HT.out HR.out).mono ?_; rintro e w' ⟨rfl, n1, rfl⟩)
    go_returns
    rw [unhide HP]
    exact ⟨_, rfl, World.ownsRow_nil _ _ _ _, Nat.zero_le _, Rd.drewN HR.out _, grown_drewN _ _ _⟩

end Go.Proofs.YtppcnlkhdgmaiaaDoor
namespace Go.Proofs.YtppcnlkhdgmaiaaDoor
open Go.RowKit

theorem Hx.pnumsF_bad {s : ByteArray} {st : Hx.St} (h : st.bad = true) : (Hx.pnumsF s st).2 = st := by
  by_cases hd : 48 ≤ Hx.byteAt s st.pos ∧ Hx.byteAt s st.pos ≤ 57
  · rw [Hx.pnumsF, if_pos hd, if_pos h]
  · rw [Hx.pnumsF, if_neg hd]
theorem Hx.pnumsF_le {s : ByteArray} {st : Hx.St} (h : st.pos ≤ s.size) : (Hx.pnumsF s st).2.pos ≤ s.size := by
  unfold Hx.pnumsF
  split
  · split
    · exact h
    · exact Hx.numsF_le _ st [] rfl h
  · exact h
def Hx.psc1 (s : ByteArray) : List Nat × Hx.St := Hx.pnumsF s ⟨0, false⟩
def Hx.psc2 (s : ByteArray) : List Nat × Hx.St := Hx.pnumsF s (Hx.takeF s 47 (Hx.psc1 s).2)

theorem Hx.numsF_nodigit {s : ByteArray} {st : Hx.St} (h : st.bad = false) (hd : ¬ (48 ≤ Hx.byteAt s st.pos ∧ Hx.byteAt s st.pos ≤ 57)) : (Hx.numsF s st []).2.bad = true := by
  rw [Hx.numsF_cont h, Hx.numF_no h hd, Hx.contF_no (by simp)]
theorem Hx.numbersF_bad {s : ByteArray} {c : Nat} {st : Hx.St} (h : st.bad = true) : (Hx.numbersF s c st).2.bad = true := by
  unfold Hx.numbersF
  split
  · exact h
  · rw [Hx.numsF, if_pos h]; exact h
/-- The second list, behind the same beginning. -/
theorem Hx.second_is (s : ByteArray) (st : Hx.St) : (!(Hx.pnumsF s st).2.bad && (Hx.pnumsF s st).2.pos == s.size) = (!(Hx.numbersF s 0 st).2.bad && (Hx.numbersF s 0 st).2.pos == s.size) ∧ ((!(Hx.numbersF s 0 st).2.bad && (Hx.numbersF s 0 st).2.pos == s.size) = true → (Hx.pnumsF s st).1 = (Hx.numbersF s 0 st).1) := by
  cases hb : st.bad
  · by_cases he : st.pos = s.size
    · have hd : ¬ (48 ≤ Hx.byteAt s st.pos ∧ Hx.byteAt s st.pos ≤ 57) := by rw [Hx.byteAt_ge (by omega)]; omega
      have e1 : Hx.pnumsF s st = ([], st) := if_neg hd
      have e2 : Hx.numbersF s 0 st = ([], st) := if_pos (Or.inl ⟨rfl, he⟩)
      rw [e1, e2]; exact ⟨rfl, fun _ => rfl⟩
    · have e2 : Hx.numbersF s 0 st = Hx.numsF s st [] := if_neg (by omega)
      by_cases hd : 48 ≤ Hx.byteAt s st.pos ∧ Hx.byteAt s st.pos ≤ 57
      · have e1 : Hx.pnumsF s st = Hx.numsF s st [] := by rw [Hx.pnumsF, if_pos hd, if_neg (by simp [hb])]
        rw [e1, e2]; exact ⟨rfl, fun _ => rfl⟩
      · have e1 : Hx.pnumsF s st = ([], st) := if_neg hd
        have e3 := Hx.numsF_nodigit hb hd
        rw [e1, e2, e3]
        have e4 : (st.pos == s.size) = false := by simpa using he
        simp only [e4, Bool.and_false, Bool.not_true, Bool.false_and]
        exact ⟨trivial, fun h => by cases h⟩
  · rw [Hx.pnumsF_bad hb, Hx.numbersF_bad hb, hb]
    exact ⟨rfl, fun h => by cases h⟩
theorem Hx.script_is (s : ByteArray) : (!(Hx.psc2 s).2.bad && (Hx.psc2 s).2.pos == s.size) = Hx.scrOk s ∧ (Hx.scrOk s = true → (Hx.psc1 s).1 = (Hx.scr1 s).1 ∧ (Hx.psc2 s).1 = (Hx.scr2 s).1) := by
  by_cases hd : 48 ≤ Hx.byteAt s 0 ∧ Hx.byteAt s 0 ≤ 57
  · have e1 : Hx.psc1 s = Hx.scr1 s := by
      have a1 : Hx.psc1 s = Hx.numsF s ⟨0, false⟩ [] := by rw [Hx.psc1, Hx.pnumsF, if_pos hd, if_neg (by simp)]
      have a2 : Hx.scr1 s = Hx.numsF s ⟨0, false⟩ [] := if_neg (by simp only; omega)
      rw [a1, a2]
    have h2 := Hx.second_is s (Hx.takeF s 47 (Hx.scr1 s).2)
    rw [Hx.psc2, e1]
    exact ⟨h2.1, fun h => ⟨rfl, h2.2 h⟩⟩
  · by_cases h47 : Hx.byteAt s 0 = 47
    · have e1 : Hx.psc1 s = Hx.scr1 s := by
        have a1 : Hx.psc1 s = ([], ⟨0, false⟩) := if_neg hd
        have a2 : Hx.scr1 s = ([], ⟨0, false⟩) := if_pos (Or.inr ⟨by decide, h47⟩)
        rw [a1, a2]
      have h2 := Hx.second_is s (Hx.takeF s 47 (Hx.scr1 s).2)
      rw [Hx.psc2, e1]
      exact ⟨h2.1, fun h => ⟨rfl, h2.2 h⟩⟩
    · have a1 : Hx.psc1 s = ([], ⟨0, false⟩) := if_neg hd
      have b1 : (Hx.takeF s 47 (Hx.psc1 s).2).bad = true := by rw [a1, Hx.takeF_no h47]
      have b2 : (Hx.psc2 s).2.bad = true := by rw [Hx.psc2, Hx.pnumsF_bad b1]; exact b1
      have a2 : Hx.scr1 s = Hx.numsF s ⟨0, false⟩ [] := if_neg (by simp only; omega)
      have b3 : (Hx.scr1 s).2.bad = true := by rw [a2]; exact Hx.numsF_nodigit rfl hd
      have b4 : (Hx.scr2 s).2.bad = true := by
        rw [Hx.scr2]
        exact Hx.numbersF_bad (by rw [Hx.takeF_bad b3]; exact b3)
      have b5 : Hx.scrOk s = false := by rw [Hx.scrOk, b4]; rfl
      rw [b2, b5]
      exact ⟨rfl, fun h => by cases h⟩

set_option maxRecDepth 100000 in
set_option maxHeartbeats 4000000 in
theorem readscript_any (s : ByteArray) (w : World) (hs : s.size ≤ 800) (ht : Tab w) :
    Calls Tryd.prog 42 #[.string s] w fun e w' => Below w.heap.size w w' ∧
      ((Hx.scrOk s = false ∧ e = .returned (.tuple #[.agg #[.slice none 0 0, .slice none 0 0], .bool false])) ∨
       (Hx.scrOk s = true ∧ (Hx.scr1 s).1.length ≤ 801 ∧ (Hx.scr2 s).1.length ≤ 801 ∧ ∃ v1 v2, e = .returned (.tuple #[.agg #[v1, v2], .bool true]) ∧ w'.ownsRow w.heap.size 3 1 v1 (Hx.scr1 s).1.length (ints (nats (Hx.scr1 s).1)) ∧ w'.ownsRow w.heap.size 3 1 v2 (Hx.scr2 s).1.length (ints (nats (Hx.scr2 s).1)))) := by
  have hs1 : s.size ≤ 1000 := by omega
  have hN : 1 < w.heap.size := ht.pos
  have HT := hide ht
  have HIS := hide (Hx.script_is s)
  have P1 : Hid ((Hx.psc1 s).2.pos ≤ s.size) := Hx.pnumsF_le (Nat.zero_le _)
  have P2 : Hid ((Hx.takeF s 47 (Hx.psc1 s).2).pos ≤ s.size) := Hx.takeF_le (by omega) P1.out
  have P3 : Hid ((Hx.psc2 s).2.pos ≤ s.size) := Hx.pnumsF_le P2.out
  clear ht
  go_enter Tryd.func42, Tryd.ntmps42
  go_upto_region 2 with fail
  have HB0 := hide (bA (.cells #[.string s, .int .i64 0, .bool false] 147) (blk_new w #[.slice none 0 0, .slice none 0 0] 109))
  have hsz : (w.alloc (.cells #[.slice none 0 0, .slice none 0 0] 109)).heap.size = w.heap.size + 1 := by simp
  have HRD0 : Hid (Rd 147 s (w.heap.size + 1) ⟨0, false⟩ ((w.alloc (.cells #[.slice none 0 0, .slice none 0 0] 109)).alloc (.cells #[.string s, .int .i64 0, .bool false] 147))) := by
    have := blk_new (w.alloc (.cells #[.slice none 0 0, .slice none 0 0] 109)) #[.string s, .int .i64 0, .bool false] 147
    rw [hsz] at this
    exact this
  have HBE0 := hide (belA (.cells #[.string s, .int .i64 0, .bool false] 147) (belA (.cells #[.slice none 0 0, .slice none 0 0] 109) (Below.refl w.heap.size w)))
  have hsz2 : ((w.alloc (.cells #[.slice none 0 0, .slice none 0 0] 109)).alloc (.cells #[.string s, .int .i64 0, .bool false] 147)).heap.size = w.heap.size + 2 := by simp
  generalize (w.alloc (.cells #[.slice none 0 0, .slice none 0 0] 109)).alloc (.cells #[.string s, .int .i64 0, .bool false] 147) = wa at *
  clear hsz
  go_wp2_with fail
  refine (pnums_any s (w.heap.size + 1) ⟨0, false⟩ wa hs1 (Nat.zero_le _) (by omega) ((unhide HT).below (unhide HBE0)) (unhide HRD0)).mono ?_
  rintro e w1 ⟨v1, rfl, hown1, hlen1, hr1, hg1⟩
  have HOWN1 : Hid (w1.ownsRow (w.heap.size + 2) 3 1 v1 (Hx.psc1 s).1.length (ints (nats (Hx.psc1 s).1))) := by
    show World.ownsRow _ _ _ _ _ _ _
    rw [hsz2] at hown1; exact hown1
  have HL1 : Hid ((Hx.psc1 s).1.length ≤ s.size + 1) := hlen1
  have HR1 : Hid (Rd 147 s (w.heap.size + 1) (Hx.psc1 s).2 w1) := hr1
  have HB1 := hide (blk_kept (unhide HB0) hg1 (by simp))
  have HBE1 := hide ((unhide HBE0).grown hg1 (unhide HBE0).size (by simp))
  have HSZ1 := hide hg1.size
  clear hown1 hlen1 hr1 hg1 HB0 HRD0 HBE0
  go_wp2_with fail
  refine (take_any s (w.heap.size + 1) (Hx.psc1 s).2 _ 47 _ hs1 P1.out rfl (by omega) (unhide HR1)).mono ?_
  rintro e w2 ⟨rfl, hr2, hg2⟩
  have HR2 := hide hr2
  have HB2 := hide (blk_kept (unhide HB1) hg2 (by simp))
  have HBE2 := hide ((unhide HBE1).grown hg2 (unhide HBE1).size (by simp))
  have HOWN2 := hide ((unhide HOWN1).kept hg2 (own_ne (unhide HOWN1) (by omega)))
  have HSZ2 : Hid (w.heap.size + 2 ≤ w2.heap.size) := by have := unhide HSZ1; have := hg2.size; show _ ≤ _; omega
  clear hr2 hg2 HR1 HB1 HBE1 HOWN1 HSZ1
  go_wp2_with fail
  refine (pnums_any s (w.heap.size + 1) (Hx.takeF s 47 (Hx.psc1 s).2) w2 hs1 P2.out (by omega) ((unhide HT).below (unhide HBE2)) (unhide HR2)).mono ?_
  rintro e w3 ⟨v2, rfl, hown3, hlen3, hr3, hg3⟩
  have HOWN3 : Hid (w3.ownsRow (w.heap.size + 2) 3 1 v2 (Hx.psc2 s).1.length (ints (nats (Hx.psc2 s).1))) := own_mono hown3 (unhide HSZ2)
  have HL3 : Hid ((Hx.psc2 s).1.length ≤ s.size + 1) := hlen3
  have HR3 : Hid (Rd 147 s (w.heap.size + 1) (Hx.psc2 s).2 w3) := hr3
  have HB3 := hide (blk_kept (unhide HB2) hg3 (by simp))
  have HBE3 := hide ((unhide HBE2).grown hg3 (unhide HBE2).size (by simp))
  have HOWN1 := hide ((unhide HOWN2).kept hg3 (own_ne (unhide HOWN2) (by omega)))
  have d2 := (unhide HR3).c2
  have e0 : w3.cell? ⟨w.heap.size, 0, none⟩ = some (.slice none 0 0) := blk_cell (unhide HB3) 0
  have e1 : w3.cell? ⟨w.heap.size, 1, none⟩ = some (.slice none 0 0) := blk_cell (unhide HB3) 1
  have ef := blk_free (unhide HB3)
  obtain ⟨a1, c1, rfl⟩ := own_form (unhide HOWN1)
  obtain ⟨a2, c2, rfl⟩ := own_form (unhide HOWN3)
  have hle := Nat.le_refl w.heap.size
  clear hown3 hlen3 hr3 hg3 HB2 HBE2 HOWN2 HR2 HB3 P1 P2
  cases hbad : (Hx.psc2 s).2.bad
  · rw [hbad] at d2
    by_cases hend : s.size ≤ (Hx.psc2 s).2.pos
    · have HOK : Hid (Hx.scrOk s = true) := by
        show _ = _
        rw [← (unhide HIS).1, hbad]
        have : (Hx.psc2 s).2.pos = s.size := by have := P3.out; omega
        simp [this]
      have HE := hide hend
      clear hbad hend
      go_wp2_with (go_at_call 62; refine (ended_yes s _ (Hx.psc2 s).2 _ hs1 P3.out HE.out (unhide HR3)).mono ?_; rintro e w7 ⟨rfl, n7, rfl⟩)
      refine bodyPost_ret (v := .tuple #[.agg #[.slice a1 (Hx.psc1 s).1.length c1, .slice a2 (Hx.psc2 s).1.length c2], .bool true]) (by simp [results, Tryd.results42, go_sem, e0, e1]) rfl ?_
      obtain ⟨q1, q2⟩ := (unhide HIS).2 (unhide HOK)
      rw [← q1, ← q2]
      refine ⟨((below_drewN (unhide HBE3) n7).setCell hle _).setCell hle _, Or.inr ⟨unhide HOK, by have := unhide HL1; omega, by have := unhide HL3; omega, _, _, rfl, ?_, ?_⟩⟩
      · exact own_mono (own_set_low (own_set_low ((unhide HOWN1).kept (grown_drewN _ n7 (some 0)) (own_ne (unhide HOWN1) (by omega))) (by omega) _ _) (by omega) _ _) (by omega)
      · exact own_mono (own_set_low (own_set_low ((unhide HOWN3).kept (grown_drewN _ n7 (some 0)) (own_ne (unhide HOWN3) (by omega))) (by omega) _ _) (by omega) _ _) (by omega)
    · have HOK : Hid (Hx.scrOk s = false) := by
        show _ = _
        rw [← (unhide HIS).1, hbad]
        have : ((Hx.psc2 s).2.pos == s.size) = false := by rw [beq_eq_false_iff_ne]; omega
        simp [this]
      have HE : Hid ((Hx.psc2 s).2.pos < s.size) := show _ < _ by omega
      clear hbad hend
      go_wp2_with (go_at_call 62; refine (ended_no s _ (Hx.psc2 s).2 _ hs1 P3.out HE.out (unhide HR3)).mono ?_; rintro e w7 ⟨rfl, n7, rfl⟩)
      refine bodyPost_ret (v := .tuple #[.agg #[.slice none 0 0, .slice none 0 0], .bool false]) (by simp [results, Tryd.results42, go_sem, e0, e1]) rfl ?_
      exact ⟨((below_drewN (unhide HBE3) n7).setCell hle _).setCell hle _, Or.inl ⟨unhide HOK, rfl⟩⟩
  · rw [hbad] at d2
    have HOK : Hid (Hx.scrOk s = false) := by
      show _ = _
      rw [← (unhide HIS).1, hbad]; rfl
    clear hbad
    go_wp2_with fail
    refine bodyPost_ret (v := .tuple #[.agg #[.slice none 0 0, .slice none 0 0], .bool false]) (by simp [results, Tryd.results42, go_sem, e0, e1]) rfl ?_
    exact ⟨((unhide HBE3).setCell hle _).setCell hle _, Or.inl ⟨unhide HOK, rfl⟩⟩

end Go.Proofs.YtppcnlkhdgmaiaaDoor
namespace Go.Proofs.YtppcnlkhdgmaiaaDoor
open Go.RowKit

end Go.Proofs.YtppcnlkhdgmaiaaDoor
namespace Go.Proofs.YtppcnlkhdgmaiaaDoor
open Go.RowKit


theorem grown_over {w a c : World} {row r : Option Nat} (h : w.grownBy a row) (g : a.grownBy c r) (hr : ∀ k, r = some k → w.heap.size ≤ k) : w.grownBy c row :=
  ⟨g.os.trans h.os, g.tape.trans h.tape, g.output.trans h.output, Nat.le_trans h.size g.size, fun i hi hne => (g.block i (Nat.lt_of_lt_of_le hi h.size) (fun e => by have := hr i e.symm; omega)).trans (h.block i hi hne)⟩

end Go.Proofs.YtppcnlkhdgmaiaaDoor
namespace Go.Proofs.YtppcnlkhdgmaiaaDoor
open Go.RowKit

end Go.Proofs.YtppcnlkhdgmaiaaDoor
namespace Go.Proofs.YtppcnlkhdgmaiaaDoor
open Go.RowKit


end Go.Proofs.YtppcnlkhdgmaiaaDoor
namespace Go.Proofs.YtppcnlkhdgmaiaaDoor
open Go.RowKit

/-- The looks, from the first on. -/
def Hx.lookL (clock : List Nat) : List Int := Hx.sumsF 0 clock
theorem Hx.sumsF_snoc (t : Nat) (cs : List Nat) (c : Nat) : Hx.sumsF t (cs ++ [c]) = Hx.sumsF t cs ++ [((t + cs.sum + c : Nat) : Int)] := by
  induction cs generalizing t with
  | nil => simp [Hx.sumsF]
  | cons d cs ih =>
    show ((t : Int)) :: Hx.sumsF (t + d) (cs ++ [c]) = _
    rw [ih (t + d)]
    show _ = ((t : Int)) :: (Hx.sumsF (t + d) cs ++ _)
    rw [List.sum_cons, Nat.add_assoc t d]
theorem Hx.sumsF_len (t : Nat) (cs : List Nat) : (Hx.sumsF t cs).length = cs.length + 1 := by
  induction cs generalizing t with
  | nil => rfl
  | cons d cs ih => show _ + 1 = _; rw [ih]; rfl
theorem Hx.sumsF_last (t : Nat) (cs : List Nat) : (Hx.sumsF t cs)[cs.length]? = some ((t + cs.sum : Nat) : Int) := by
  induction cs generalizing t with
  | nil => simp [Hx.sumsF]
  | cons d cs ih =>
    show (((t : Int)) :: Hx.sumsF (t + d) cs)[cs.length + 1]? = _
    rw [List.getElem?_cons_succ, ih, List.sum_cons, Nat.add_assoc]
theorem own_drew {w : World} {base : Nat} {e : TypeId} {size : Nat} {v : Value} {n : Nat} {xs : List Value} (h : w.ownsRow base e size v n xs) : w.drew.ownsRow base e size v n xs := h.kept (grown_drewN w 1 none) (by cases v.ownBlock <;> simp)
theorem sum_take_le (l : List Nat) (k : Nat) : (l.take k).sum ≤ l.sum := by
  induction l generalizing k with
  | nil => simp
  | cons a l ih =>
    cases k with
    | zero => simp
    | succ k => simp only [List.take_succ_cons, List.sum_cons]; have := ih k; omega

end Go.Proofs.YtppcnlkhdgmaiaaDoor
namespace Go.Proofs.YtppcnlkhdgmaiaaDoor
open Go.RowKit

theorem decF_itoa (n : Nat) : Hx.decF n = Lib.itoa (n : Int) := by
  have e : ∀ n, Hx.decF n = Lib.decDigits n := by
    intro n
    induction n using Hx.decF.induct with
    | case1 n h => rw [Hx.decF, if_pos h, Lib.decDigits, dif_pos h]
    | case2 n h ih => rw [Hx.decF, if_neg h, Lib.decDigits, dif_neg h, ih]
  rw [e, Lib.itoa, if_neg (by omega)]
  simp
theorem nameB_nm (pl no : Nat) (h : no < 10) : nameB pl no = Hx.nmB pl no := by
  rw [nameB, Hx.decF_one h]; rfl
/-- A step of a table, as the document's Name takes it. -/
abbrev tsAgg (y : Hx.TStp) : Value := .agg #[.int .i64 (y.pl : Int), .int .i64 (y.no : Int), .int .i64 (y.lo : Int), .int .i64 (y.hi : Int), .bool y.rest, .int .i64 (y.mn : Int), .int .i64 (y.mx : Int), .int .i64 (y.t : Int), .int .i64 y.out, .int .i64 y.inn]
theorem Hx.firstF_cases (L : List Int) (x : Int) (n : Nat) : ∀ k, L.length - k = n → Hx.firstF L x k = -1 ∨ ∃ a : Nat, Hx.firstF L x k = (a : Int) ∧ k ≤ a ∧ a < L.length := by
  induction n with
  | zero => intro k hk; exact Or.inl (Hx.firstF_end (by omega))
  | succ n ih =>
    intro k hk
    have hlt : k < L.length := by omega
    by_cases h : x ≤ L[k]
    · exact Or.inr ⟨k, Hx.firstF_here (List.getElem?_eq_getElem hlt) h, Nat.le_refl _, hlt⟩
    · rw [Hx.firstF_next (List.getElem?_eq_getElem hlt) h]
      rcases ih (k + 1) (by omega) with h2 | ⟨a, h2, h3, h4⟩
      · exact Or.inl h2
      · exact Or.inr ⟨a, h2, by omega, h4⟩
theorem Hx.sumsF_bound (t : Nat) (cs : List Nat) : ∀ v ∈ Hx.sumsF t cs, ∃ n : Nat, v = (n : Int) ∧ n ≤ t + cs.sum := by
  induction cs generalizing t with
  | nil => intro v hv; rw [List.mem_singleton.1 hv]; exact ⟨t, rfl, by simp⟩
  | cons c cs ih =>
    intro v hv
    rcases List.mem_cons.1 hv with rfl | hv
    · exact ⟨t, rfl, by omega⟩
    · obtain ⟨n, e, h⟩ := ih (t + c) v hv
      exact ⟨n, e, by rw [List.sum_cons]; omega⟩
theorem joined_list (s t : List UInt8) : Hx.joinedF ⟨s.toArray⟩ ⟨t.toArray⟩ = ⟨(Hx.joinB s t).toArray⟩ := by
  unfold Hx.joinedF Hx.joinB
  have e : (⟨s.toArray⟩ : ByteArray).toList.isEmpty = s.isEmpty := by
    rw [Lib.toList_data]
  rw [e]
  cases s with
  | nil => simp
  | cons a s =>
    simp only [List.isEmpty_cons, reduceCtorEq, if_false, Bool.false_eq_true]
    rw [show (⟨#[44]⟩ : ByteArray) = ⟨([44] : List UInt8).toArray⟩ from rfl, bytes_app, bytes_app]

end Go.Proofs.YtppcnlkhdgmaiaaDoor
