/- What the law does at a step that is a Check. What looked and Look answer: the table, or the error and its place. What the program's reader of scripts does: numbers, readScript. What the program's readScript does. Small parts of the document's side: End, first, joined. How the document reads a list of numbers: numbers. How the document reads a script: numbers, Script. How the document reads a script: Script. What the document's looks does: the times at which the machine looks at its clock. What the document's Run needs: names and numbers as they are written; where a look is. -/
import Derived.Test.YtppcnlkhdgmaiabGreatDoorCPg
import Derived.Test.YtppcnlkhdgmaiabGreatDoorCRfF
import Derived.Test.YtppcnlkhdgmaiabGreatDoorCRtD
import Derived.Test.YtppcnlkhdgmaiabGreatDoorCRgI
import Derived.Test.YtppcnlkhdgmaiabGreatDoorCPlA
import Derived.BigQuiet
import Derived.Test.YtppcnlkhdgmaiabGreatDoorCRmA
import Derived.Deep.RegionLaw
import Derived.Lib.Strings
namespace Go.Proofs.YtppcnlkhdgmaiabGreatDoor
open Go.RowKit

set_option maxRecDepth 100000 in
set_option maxHeartbeats 4000000 in
theorem plays_check (n : Int) (s t : ByteArray) (w : World) (hs : s.size ≤ maxLen) (ht : Tab w) :
    Calls Tryz.prog 5 #[.agg #[.int .i64 1, .int .i64 n, .string s, .string t]] w fun e w' => e = .returned (.bool true) ∧ Below w.heap.size w w' := by
  have HT := hide ht
  have HS := hide hs
  clear ht hs
  go_enter Tryz.func5, Tryz.ntmps5
  go_wp2_with fail
  refine (check_any s _ (unhide HS) (Tab.alloc (unhide HT) _)).mono ?_
  rintro e w1 ⟨rfl, hb1⟩
  have c2 : w1.cell? ⟨w.heap.size, 2, none⟩ = some (.string s) := by
    rw [hb1.cell (p := ⟨w.heap.size, 2, none⟩) (by simp)]
    exact blk_cell (blk_new w #[.int .i64 1, .int .i64 n, .string s, .string t] 26) 2
  have HB1 := hide (((Below.refl w.heap.size w).alloc (Nat.le_refl _) _).trans (hb1.mono (by simp)))
  clear hb1
  go_wp2_with fail
  refine (refcheck_any s _ (unhide HS)).mono ?_
  rintro e w2 ⟨rfl, hb2⟩
  have HB2 := hide ((unhide HB1).trans (hb2.mono (unhide HB1).size))
  clear hb2
  go_wp2_with fail
  refine (num_any _ _).mono ?_
  rintro e w3 ⟨rfl, rfl⟩
  have e1 : (((Hx.checkF s).1 : Int) == ((Hx.checkF s).1 : Int)) = true := by simp
  have e2 : (((Hx.checkF s).2 : Int) == ((Hx.checkF s).2 : Int)) = true := by simp
  go_wp2_with fail
  go_returns
  exact ⟨rfl, unhide HB2⟩


theorem plays_checks : Plays Tab 1 1 := fun k n s t w h1 h2 hs _ ht => by
  obtain rfl : k = 1 := by omega
  exact plays_check n s t w hs ht
end Go.Proofs.YtppcnlkhdgmaiabGreatDoor
namespace Go.Proofs.YtppcnlkhdgmaiabGreatDoor
open Go.RowKit

/-- What looked answers. -/
def LkRes (s : ByteArray) (w : World) (e : Ending) (w' : World) : Prop := Below w.heap.size w w' ∧
  (((Hx.lookF s).1 ≠ 0 ∧ e = .returned (.tuple #[.agg #[.int .i64 0, .slice none 0 0], .int .i64 (Hx.lookF s).1, .int .i64 (Hx.lookF s).2])) ∨
   (Hx.lookF s = (0, 0) ∧ s.size ≤ 400 ∧ (Hx.tableF s).1.bad = false ∧ Hx.wrongF (Hx.tableF s).2 0 = (0, 0) ∧ (Hx.tableF s).2.length ≤ 401 ∧ ∃ v, e = .returned (.tuple #[.agg #[.int .i64 ((Hx.theadF s).1 : Int), v], .int .i64 0, .int .i64 0]) ∧ w'.ownsRow w.heap.size 146 11 v (Hx.tableF s).2.length (ptsCells (Hx.tableF s).2)))

theorem wrongF_cases (l : List Hx.TStp) (k : Nat) : Hx.wrongF l k = (0, 0) ∨ ∃ j : Nat, Hx.wrongF l k = (9, (j : Int)) := by
  induction k using Hx.wrongF.induct (l := l) with
  | case1 k hk hr ih => rw [Hx.wrongF_step hk, if_pos hr]; exact ih
  | case2 k hk hr => rw [Hx.wrongF_step hk, if_neg hr]; exact Or.inr ⟨k, rfl⟩
  | case3 k hk => rw [Hx.wrongF_end hk]; exact Or.inl rfl

theorem own_set_low {w : World} {base : Nat} {e : TypeId} {size : Nat} {v : Value} {n : Nat} {xs : List Value} (h : w.ownsRow base e size v n xs) {k : Nat} (hk : k < base) (o : Nat) (x : Value) : (w.setCell ⟨k, o, none⟩ x).ownsRow base e size v n xs := h.kept (grown_set w k o x) (own_ne h hk)

set_option maxRecDepth 100000 in
set_option maxHeartbeats 4000000 in
theorem looked_any (s : ByteArray) (w : World) (hs : s.size ≤ maxLen) (ht : Tab w) : Calls Tryz.prog 26 #[.string s] w (LkRes s w) := by
  unfold maxLen at hs
  have HT := hide ht
  clear ht
  obtain ⟨R, hR⟩ : ∃ R, R = LkRes s w := ⟨_, rfl⟩
  rw [← hR]
  have HR := hide hR
  clear hR
  go_enter Tryz.func26, Tryz.ntmps26
  by_cases hb : 400 < s.size
  · have HE : Hid (Hx.lookF s = (1, 0)) := if_pos hb
    have hbI : (400 : Int) < (s.size : Int) := by omega
    clear hb
    go_wp2_with fail
    refine bodyPost_ret (v := .tuple #[.agg #[.int .i64 0, .slice none 0 0], .int .i64 1, .int .i64 0]) (by simp [results, Tryz.results26, go_sem]) rfl ?_
    rw [unhide HR]
    refine ⟨(Below.refl _ _).alloc (Nat.le_refl _) _, Or.inl ⟨by rw [unhide HE]; decide, by rw [unhide HE]⟩⟩
  · have HE : Hid (Hx.lookF s = if (Hx.tableF s).1.bad then (2, ((Hx.tableF s).1.pos : Int)) else Hx.wrongF (Hx.tableF s).2 0) := if_neg hb
    have hbI : ¬ (400 : Int) < (s.size : Int) := by omega
    have hs4 : s.size ≤ 400 := by omega
    clear hb
    have HRD := hide (readtable_any s (w.alloc (.cells #[.int .i64 0, .slice none 0 0] 79)) hs4 ((unhide HT).alloc _))
    have HB0 := hide (blk_new w #[.int .i64 0, .slice none 0 0] 79)
    have HBE0 := hide (belA (.cells #[.int .i64 0, .slice none 0 0] 79) (Below.refl w.heap.size w))
    have hsz : (w.alloc (.cells #[.int .i64 0, .slice none 0 0] 79)).heap.size = w.heap.size + 1 := by simp
    go_wp2_with fail
    refine (unhide HRD).mono ?_
    rintro e w1 ⟨hbe, ⟨hbad, rfl⟩ | ⟨hbad, v, rfl, hown, hlen⟩⟩
    · have HE2 : Hid (Hx.lookF s = (2, ((Hx.tableF s).1.pos : Int))) := by show _ = _; rw [unhide HE, hbad]; rfl
      have HB1 := hide ((hbe.block _ (lt_of_block (unhide HB0))).trans (unhide HB0))
      have HBE := hide ((unhide HBE0).trans (hbe.mono (unhide HBE0).size))
      clear hbe hbad HE HRD HB0 HBE0
      have e0 : ∀ o, (w1.alloc o).cell? ⟨w.heap.size, 0, none⟩ = some (.int .i64 0) := fun o => cA o (blk_cell (unhide HB1) 0)
      have e1 : ∀ o, (w1.alloc o).cell? ⟨w.heap.size, 1, none⟩ = some (.slice none 0 0) := fun o => cA o (blk_cell (unhide HB1) 1)
      have ef : ∀ o k, (w1.alloc o).frozen? ⟨w.heap.size, k, none⟩ = false := fun o k => blk_free (bA o (unhide HB1)) k
      go_wp2_with fail
      refine bodyPost_ret (v := .tuple #[.agg #[.int .i64 0, .slice none 0 0], .int .i64 2, .int .i64 ((Hx.tableF s).1.pos : Int)]) (by simp [results, Tryz.results26, go_sem, e0, e1]) rfl ?_
      rw [unhide HR]
      refine ⟨?_, Or.inl ⟨by rw [unhide HE2]; exact (by decide : (2 : Int) ≠ 0), by rw [unhide HE2]⟩⟩
      have hle := Nat.le_refl w.heap.size
      exact (((unhide HBE).alloc (unhide HBE).size _).setCell hle _).setCell hle _
    · have HE2 : Hid (Hx.lookF s = Hx.wrongF (Hx.tableF s).2 0) := by show _ = _; rw [unhide HE, hbad]; rfl
      obtain ⟨l, hl⟩ : ∃ l, l = (Hx.tableF s).2 := ⟨_, rfl⟩
      obtain ⟨J, hJ⟩ : ∃ J, J = (Hx.theadF s).1 := ⟨_, rfl⟩
      have HOK : Hid (∀ y ∈ l, Hx.TOk y) := by rw [hl]; exact Hx.tableF_ok s
      rw [← hl] at hown hlen HE2
      rw [← hJ]
      have HL := hide hl
      have HJ := hide hJ
      have HBAD := hide hbad
      clear HE hbad hl hJ
      obtain ⟨ao, cap, rfl⟩ := own_form hown
      have HB1 := hide (bA (.cells #[.int .i64 (J : Int), .slice ao l.length cap] 79) ((hbe.block _ (lt_of_block (unhide HB0))).trans (unhide HB0)))
      have HBE := hide (belA (.cells #[.int .i64 (J : Int), .slice ao l.length cap] 79) ((unhide HBE0).trans (hbe.mono (unhide HBE0).size)))
      have HT1 := hide (bN #[.int .i64 (J : Int), .slice ao l.length cap] 79 (w := w1) rfl)
      rw [hsz] at hown
      have HOWN := hide (hown.alloc (.cells #[.int .i64 (J : Int), .slice ao l.length cap] 79))
      have htb : w.heap.size < w1.heap.size := by have := hbe.size; omega
      clear hbe HRD HB0 HBE0 hown hsz
      go_upto_region 6 with fail
      obtain ⟨tb, htb2⟩ : ∃ tb, tb = w1.heap.size := ⟨_, rfl⟩
      rw [← htb2] at HT1 htb ⊢
      clear htb2
      generalize w1.alloc (.cells #[.int .i64 (J : Int), .slice ao l.length cap] 79) = w2 at *
      have t1 : w2.cell? ⟨tb, 1, none⟩ = some (.slice ao l.length cap) := blk_cell (unhide HT1) 1
      go_wp2_with fail
      refine (notright_any l _ w2 (own_mono (unhide HOWN) (Nat.zero_le _)) hlen (unhide HOK)).mono ?_
      rintro e w3 ⟨rfl, hb3⟩
      have HB3 := hide ((hb3.block _ (lt_of_block (unhide HB1))).trans (unhide HB1))
      have HT3 := hide ((hb3.block _ (lt_of_block (unhide HT1))).trans (unhide HT1))
      have HBE3 := hide ((unhide HBE).trans (hb3.mono (unhide HBE).size))
      have HOWN3 := hide (own_below (unhide HOWN) hb3)
      clear hb3 HB1 HT1 HBE HOWN t1
      have e0 : w3.cell? ⟨w.heap.size, 0, none⟩ = some (.int .i64 0) := blk_cell (unhide HB3) 0
      have e1 : w3.cell? ⟨w.heap.size, 1, none⟩ = some (.slice none 0 0) := blk_cell (unhide HB3) 1
      have ef : ∀ k, w3.frozen? ⟨w.heap.size, k, none⟩ = false := fun k => blk_free (unhide HB3) k
      have t0 : w3.cell? ⟨tb, 0, none⟩ = some (.int .i64 (J : Int)) := blk_cell (unhide HT3) 0
      have t1 : w3.cell? ⟨tb, 1, none⟩ = some (.slice ao l.length cap) := blk_cell (unhide HT3) 1
      have hle := Nat.le_refl w.heap.size
      rcases wrongF_cases l 0 with hw | ⟨j, hw⟩
      · have HW := hide hw
        rw [hw]
        clear hw
        have hf : ((0 : Int) != 0) = false := by decide
        go_wp2_with fail
        refine bodyPost_ret (v := .tuple #[.agg #[.int .i64 (J : Int), .slice ao l.length cap], .int .i64 0, .int .i64 0]) (by simp [results, Tryz.results26, go_sem, e0, e1]) rfl ?_
        rw [unhide HR]
        refine ⟨((unhide HBE3).setCell hle _).setCell hle _, Or.inr ⟨by rw [unhide HE2, unhide HW], hs4, unhide HBAD, by rw [← unhide HL]; exact unhide HW, by rw [← unhide HL]; exact hlen, _, by rw [← unhide HJ], ?_⟩⟩
        rw [← unhide HL]
        exact own_mono (own_set_low (own_set_low (unhide HOWN3) (by omega) _ _) (by omega) _ _) (by omega)
      · have HW := hide hw
        rw [hw]
        clear hw
        have hf : ((9 : Int) != 0) = true := by decide
        go_wp2_with fail
        refine bodyPost_ret (v := .tuple #[.agg #[.int .i64 0, .slice none 0 0], .int .i64 9, .int .i64 (j : Int)]) (by simp [results, Tryz.results26, go_sem, e0, e1]) rfl ?_
        rw [unhide HR]
        refine ⟨((unhide HBE3).setCell hle _).setCell hle _, Or.inl ⟨by rw [unhide HE2, unhide HW]; exact (by decide : (9 : Int) ≠ 0), by rw [unhide HE2, unhide HW]⟩⟩

set_option maxHeartbeats 2000000 in
theorem look_any (s : ByteArray) (w : World) (hs : s.size ≤ maxLen) (ht : Tab w) :
    Calls Tryz.prog 11 #[.string s] w fun e w' => e = .returned (.tuple #[.int .i64 (Hx.lookF s).1, .int .i64 (Hx.lookF s).2]) ∧ Below w.heap.size w w' := by
  have HL := hide (looked_any s w hs ht)
  clear hs ht
  go_enter Tryz.func11, Tryz.ntmps11
  go_wp2_with fail
  refine (unhide HL).mono ?_
  rintro e w1 ⟨hbe, ⟨_, rfl⟩ | ⟨he, _, _, _, _, v, rfl, hown⟩⟩
  · have HBE := hide hbe
    clear hbe
    go_wp2_with fail
    go_returns
    exact ⟨rfl, (unhide HBE).alloc (unhide HBE).size _⟩
  · obtain ⟨ao, cap, rfl⟩ := own_form hown
    have HBE := hide hbe
    have HE := hide he
    clear hbe hown he
    go_wp2_with fail
    go_returns
    exact ⟨by rw [unhide HE]; rfl, (unhide HBE).alloc (unhide HBE).size _⟩

set_option maxRecDepth 100000 in
set_option maxHeartbeats 4000000 in
theorem plays_look (n : Int) (s t : ByteArray) (w : World) (hs : s.size ≤ maxLen) (ht : Tab w) :
    Calls Tryz.prog 5 #[.agg #[.int .i64 3, .int .i64 n, .string s, .string t]] w fun e w' => e = .returned (.bool true) ∧ Below w.heap.size w w' := by
  have HT := hide ht
  have HS := hide hs
  clear ht hs
  go_enter Tryz.func5, Tryz.ntmps5
  go_wp2_with fail
  refine (look_any s _ (unhide HS) (Tab.alloc (unhide HT) _)).mono ?_
  rintro e w1 ⟨rfl, hb1⟩
  have c2 : w1.cell? ⟨w.heap.size, 2, none⟩ = some (.string s) := by
    rw [hb1.cell (p := ⟨w.heap.size, 2, none⟩) (by simp)]
    exact blk_cell (blk_new w #[.int .i64 3, .int .i64 n, .string s, .string t] 26) 2
  have HB1 := hide (((Below.refl w.heap.size w).alloc (Nat.le_refl _) _).trans (hb1.mono (by simp)))
  clear hb1
  go_wp2_with fail
  refine (reflook_all s _ (unhide HS)).mono ?_
  rintro e w2 ⟨rfl, hb2⟩
  have HB2 := hide ((unhide HB1).trans (hb2.mono (unhide HB1).size))
  clear hb2
  go_wp2_with fail
  refine (num_any _ _).mono ?_
  rintro e w3 ⟨rfl, rfl⟩
  have e1 : ((Hx.lookF s).1 == (Hx.lookF s).1) = true := by simp
  have e2 : ((Hx.lookF s).2 == (Hx.lookF s).2) = true := by simp
  go_wp2_with fail
  go_returns
  exact ⟨rfl, unhide HB2⟩

theorem plays_looks : Plays Tab 3 3 := fun k n s t w h1 h2 hs _ ht => by
  obtain rfl : k = 3 := by omega
  exact plays_look n s t w hs ht

end Go.Proofs.YtppcnlkhdgmaiabGreatDoor
namespace Go.Proofs.YtppcnlkhdgmaiabGreatDoor
open Go.RowKit

/-- Numbers with commas, as the program reads them. -/
def Hx.pnumsF (s : ByteArray) (st : Hx.St) : List Nat × Hx.St := if 48 ≤ Hx.byteAt s st.pos ∧ Hx.byteAt s st.pos ≤ 57 then (if st.bad = true then ([0], st) else Hx.numsF s st []) else ([], st)

/-- What is read behind a number. -/
def Hx.contF (s : ByteArray) (st : Hx.St) (acc : List Nat) : List Nat × Hx.St := if st.bad = false ∧ Hx.byteAt s st.pos = 44 then Hx.numsF s ⟨st.pos + 1, false⟩ acc else (acc, st)
theorem Hx.numsF_cont {s : ByteArray} {st : Hx.St} {acc : List Nat} (h : st.bad = false) : Hx.numsF s st acc = Hx.contF s (Hx.numF s 3 st).2 (acc ++ [(Hx.numF s 3 st).1]) := by
  rw [Hx.numsF, if_neg (by simp [h]), Hx.contF]
  by_cases hc : (Hx.numF s 3 st).2.bad = false ∧ Hx.byteAt s (Hx.numF s 3 st).2.pos = 44
  · have e : Hx.nextF s 44 (Hx.numF s 3 st).2 = (true, ⟨(Hx.numF s 3 st).2.pos + 1, false⟩) := if_pos hc
    rw [dif_pos (by rw [e]), e, if_pos hc]
  · have e := Hx.nextF_no hc
    rw [dif_neg (by rw [e]; exact Bool.false_ne_true), e, if_neg hc]
theorem Hx.contF_on {s : ByteArray} {st : Hx.St} {acc : List Nat} (h : st.bad = false) (h2 : Hx.byteAt s st.pos = 44) : Hx.contF s st acc = Hx.contF s (Hx.numF s 3 ⟨st.pos + 1, false⟩).2 (acc ++ [(Hx.numF s 3 ⟨st.pos + 1, false⟩).1]) := by
  rw [Hx.contF, if_pos ⟨h, h2⟩, Hx.numsF_cont rfl]
theorem Hx.contF_no {s : ByteArray} {st : Hx.St} {acc : List Nat} (h : ¬ (st.bad = false ∧ Hx.byteAt s st.pos = 44)) : Hx.contF s st acc = (acc, st) := if_neg h
theorem Hx.pnumsF_cont {s : ByteArray} {st : Hx.St} (hd : 48 ≤ Hx.byteAt s st.pos ∧ Hx.byteAt s st.pos ≤ 57) : Hx.pnumsF s st = Hx.contF s (Hx.numF s 3 st).2 [(Hx.numF s 3 st).1] := by
  rw [Hx.pnumsF, if_pos hd]
  cases hb : st.bad
  · rw [if_neg (by decide), Hx.numsF_cont hb]; rfl
  · rw [if_pos rfl, Hx.numF_bad hb, Hx.contF_no (by simp [hb])]

theorem snoc_nats (acc : List Nat) (n : Nat) : ints (nats (acc ++ [n])) = ints (nats acc) ++ [.int .i64 (n : Int)] := by simp [nats, ints]

set_option maxRecDepth 100000 in
set_option maxHeartbeats 4000000 in
theorem pnums_any (s : ByteArray) (b : Nat) (st : Hx.St) (w : World) (hs : s.size ≤ 1000) (hp : st.pos ≤ s.size) (hb : 1 < b) (ht : Tab w) (hr : Rd 139 s b st w) :
    Calls Tryz.prog 59 #[.pointer (some ⟨b, 0, none⟩)] w fun e w' => ∃ v, e = .returned v ∧ w'.ownsRow w.heap.size 3 1 v (Hx.pnumsF s st).1.length (ints (nats (Hx.pnumsF s st).1)) ∧ (Hx.pnumsF s st).1.length ≤ s.size + 1 ∧ Rd 139 s b (Hx.pnumsF s st).2 w' ∧ w.grownBy w' (some b) := by
  obtain ⟨i0, hi, hz0, hz1, hz2⟩ := info_parts Tryz.info3
  have HI := hide hi
  have HZ0 := hide hz0
  have HZ1 := hide hz1
  have HZ2 := hide hz2
  have HT : Hid (Tab w) := ht
  have HR : Hid (Rd 139 s b st w) := hr
  have HB : Hid (b < w.heap.size) := hr.lt
  clear hi hz0 hz1 hz2 ht hr
  go_enter Tryz.func59, Tryz.ntmps59
  by_cases hd : 48 ≤ Hx.byteAt s st.pos ∧ Hx.byteAt s st.pos ≤ 57
  · obtain ⟨kv, hkv, hk12⟩ : ∃ kv : Int, (Hx.kindOf (Hx.byteAt s st.pos) : Int) = kv ∧ (kv = 1 ∨ kv = 2) := by
      refine ⟨_, rfl, ?_⟩
      by_cases h0 : Hx.byteAt s st.pos = 48
      · exact Or.inl (by rw [(Hx.kindOf_one _).2 h0]; rfl)
      · exact Or.inr (by rw [(Hx.kindOf_two _).2 (by omega)]; rfl)
    have HKV := hide hkv
    have hP := Hx.pnumsF_cont hd
    have hnle := Hx.numF_le (s := s) (m := 3) (st := st) hp
    obtain ⟨⟨n0, st0⟩, hn0⟩ : ∃ r, Hx.numF s 3 st = r := ⟨_, rfl⟩
    have HN := hide (number_any s b st 3 3 (w.drewN 0) hs hp (by omega) rfl hb (Tab.drewN HT.out _) (Rd.drewN HR.out _))
    have HNUM := hide (fun n => number_any s b st 3 3 (w.drewN n) hs hp (by omega) rfl hb (Tab.drewN HT.out _) (Rd.drewN HR.out _))
    rw [hn0] at hP hnle HNUM
    have HP := hide hP
    simp only at hnle
    clear HN hn0
    clear hkv hd hP
    rcases hk12 with rfl | rfl
    all_goals
      go_wp2_with (first | (go_at_call 80; refine (kind_val s b st _ _ hs hp (unhide HKV) HT.out HR.out).mono ?_; rintro e w1 ⟨rfl, n1, rfl⟩) | (go_at_call 65; refine (unhide HNUM _).mono ?_; rintro e w2 ⟨rfl, hr2, hg2⟩; have HR2 := hide hr2; have HG2 := hide (grown_trans (grown_drewN _ _ _) hg2); clear hr2 hg2))
      have hown0 := World.ownsRow_lit (base := w.heap.size) (e := 3) (size := 1) w2 #[Value.int IntKind.i64 (n0 : Int)] 1 (unhide HG2).size (by unfold maxLen; omega) rfl
      have HOWN0 := hide hown0
      clear hown0 HKV HNUM
      go_loopg [4] (s.size - st0.pos) (fun gk v wr => ∃ (st' : Hx.St) (acc : List Nat), st'.pos ≤ s.size ∧ gk = s.size - st'.pos ∧ acc.length ≤ st'.pos + 1 ∧ wr.ownsRow w.heap.size 3 1 v acc.length (ints (nats acc)) ∧ Rd 139 s b st' wr ∧ w.grownBy wr (some b) ∧ Hx.contF s st' acc = Hx.pnumsF s st)
      case atStart => exact ⟨st0, [n0], hnle, rfl, by simp, unhide HOWN0, Rd.alloc (unhide HR2) _, grown_trans (unhide HG2) (grown_alloc _ _ _), (unhide HP).symm⟩
      case round =>
        clear HOWN0 HR2 HG2 HP
        obtain ⟨st', acc, hpos, rfl, hlen, hown, hrd, hgr, hfin⟩ := hrel
        have HOWN := hide hown
        have HRD := hide hrd
        have HGR := hide hgr
        have HTR : Hid (Tab wr) := HT.out.grown hb hgr
        have c2 := hrd.c2
        have hsz : Hid (w.heap.size ≤ wr.heap.size) := hgr.size
        clear hown hrd hgr
        cases hbad : st'.bad
        · rw [hbad] at c2
          by_cases h44 : Hx.byteAt s st'.pos = 44
          · rw [Hx.contF_on hbad h44] at hfin
            have hk := hide (show ((Hx.kindOf (Hx.byteAt s st'.pos) : Nat) : Int) = 5 by rw [(Hx.kindOf_five _).2 h44]; rfl)
            have hlt : st'.pos < s.size := Hx.byteAt_in (by omega)
            have htk := hide (Hx.takeF_yes hbad h44)
            have hge := Hx.numF_ge s 3 ⟨st'.pos + 1, false⟩
            have hle := Hx.numF_le (s := s) (m := 3) (st := ⟨st'.pos + 1, false⟩) (by show st'.pos + 1 ≤ _; omega)
            have HNUM := hide (fun W hT hR => number_any s b ⟨st'.pos + 1, false⟩ 3 3 W hs (by show st'.pos + 1 ≤ _; omega) (by omega) rfl hb hT hR)
            obtain ⟨⟨n5, st5⟩, hn5⟩ : ∃ r, Hx.numF s 3 ⟨st'.pos + 1, false⟩ = r := ⟨_, rfl⟩
            rw [hn5] at hfin hge hle HNUM
            simp only at hge hle
            have HFIN := hide hfin
            clear hbad h44 hfin hn5
            go_wp2_with fail
            refine (kind_val s b st' _ _ hs hpos (unhide hk) HTR.out (unhide HRD)).mono ?_
            rintro e w4 ⟨rfl, n4, rfl⟩
            go_wp2_with fail
            refine (take_any s b st' _ 44 _ hs hpos rfl (by omega) (Rd.drewN (unhide HRD) _)).mono ?_
            rintro e w4 ⟨rfl, hr4, hg4⟩
            rw [unhide htk] at hr4
            have HR4 := hide hr4
            have HT4 : Hid (Tab w4) := (Tab.drewN HTR.out _).grown hb hg4
            have HG4 := hide (grown_trans (grown_drewN wr _ _) hg4)
            clear hr4 hg4
            go_wp2_with fail
            refine (unhide HNUM _ HT4.out (unhide HR4)).mono ?_
            rintro e w5 ⟨rfl, hr5, hg5⟩
            have HR5 := hide hr5
            have HG5 := hide (grown_trans (unhide HG4) hg5)
            have HOWN5 := hide ((unhide HOWN).kept (unhide HG5) (own_ne (unhide HOWN) HB.out))
            clear hr5 hg5 HOWN HRD HG4 HR4 HT4 HTR HNUM
            go_wp2_with (at_builtin; refine wpList_append_own _ rfl _ _ 64 rfl w.heap.size 3 i0 (.int .i64 0) 1 8 Tryz.underlying64 (unhide HI) (unhide HZ0) (unhide HZ1) (unhide HZ2) rfl (by decide) _ _ _ rfl ((unhide HOWN5).alloc _) ⟨w5.heap.size, 0, none⟩ 1 1 [.int .i64 (n5 : Int)] rfl rfl ?c1 ?c2 ?c3 ?c4 ?c5 ?_)
            case c1 => exact news_new w5 [.int .i64 (n5 : Int)] 3
            case c2 => intro u hu; rw [List.mem_singleton.1 hu]; rfl
            case c3 => unfold maxLen; omega
            case c4 => omega
            case c5 => have := hsz.out; have := (unhide HG5).size; simp; omega
            · intro v' w6 hown' hgrow _
              have HOWN6 := hide hown'
              have HGROW := hide hgrow
              clear hown' hgrow
              go_wp2_with fail
              go_roundg (s.size - st5.pos)
              case measure => omega
              case rel =>
                refine ⟨st5, acc ++ [n5], hle, rfl, by simp; omega, ?_, ?_, ?_, unhide HFIN⟩
                · rw [snoc_nats, List.length_append]; exact unhide HOWN6
                · exact ((unhide HR5).alloc _).kept (unhide HGROW) (fun e => by rcases own_ne (unhide HOWN5) HB.out with h | h <;> simp_all)
                · exact grown_own (grown_trans (unhide HGR) (grown_trans (unhide HG5) (grown_alloc _ _ _))) (unhide HGROW) (fun k e => ((unhide HOWN5).lt k e).1)
          · rw [Hx.contF_no (fun g => h44 g.2)] at hfin
            have HFIN := hide hfin
            obtain ⟨kv, hkv, hk1⟩ : ∃ kv : Int, (Hx.kindOf (Hx.byteAt s st'.pos) : Int) = kv ∧ (kv == 5) = false := by
              refine ⟨_, rfl, ?_⟩
              rw [beq_eq_false_iff_ne]; intro e; exact h44 ((Hx.kindOf_five (Hx.byteAt s st'.pos)).1 (by omega))
            have HKV := hide hkv
            clear h44 hkv hbad hfin
            go_wp2_with fail
            refine (kind_val s b st' _ _ hs hpos (unhide HKV) HTR.out (unhide HRD)).mono ?_
            rintro e w4 ⟨rfl, n4, rfl⟩
            go_wp2_with fail
            go_returns
            rw [← unhide HFIN]
            exact ⟨_, rfl, unhide HOWN, by show acc.length ≤ _; omega, unhide HRD, grown_trans (unhide HGR) (grown_drewN _ _ _)⟩
        · rw [hbad] at c2
          rw [Hx.contF_no (by simp [hbad])] at hfin
          have HFIN := hide hfin
          clear hfin hbad
          go_wp2_with fail
          go_returns
          rw [← unhide HFIN]
          exact ⟨_, rfl, unhide HOWN, by show acc.length ≤ _; omega, unhide HRD, unhide HGR⟩
  · obtain ⟨kv, hkv, hk1, hk2⟩ : ∃ kv : Int, (Hx.kindOf (Hx.byteAt s st.pos) : Int) = kv ∧ (kv != 1) = true ∧ (kv != 2) = true := by
      refine ⟨_, rfl, ?_, ?_⟩
      · rw [bne_iff_ne]; intro e; have := (Hx.kindOf_one (Hx.byteAt s st.pos)).1 (by omega); omega
      · rw [bne_iff_ne]; intro e; have := (Hx.kindOf_two (Hx.byteAt s st.pos)).1 (by omega); omega
    have HKV := hide hkv
    have HP : Hid (Hx.pnumsF s st = ([], st)) := if_neg hd
    clear hkv hd
    go_wp2_with (go_at_call 80; refine (kind_val s b st _ _ hs hp (unhide HKV) HT.out HR.out).mono ?_; rintro e w' ⟨rfl, n1, rfl⟩)
    go_returns
    rw [unhide HP]
    exact ⟨_, rfl, World.ownsRow_nil _ _ _ _, Nat.zero_le _, Rd.drewN HR.out _, grown_drewN _ _ _⟩

end Go.Proofs.YtppcnlkhdgmaiabGreatDoor
namespace Go.Proofs.YtppcnlkhdgmaiabGreatDoor
open Go.RowKit

theorem Hx.pnumsF_bad {s : ByteArray} {st : Hx.St} (h : st.bad = true) : (Hx.pnumsF s st).2 = st := by
  by_cases hd : 48 ≤ Hx.byteAt s st.pos ∧ Hx.byteAt s st.pos ≤ 57
  · rw [Hx.pnumsF, if_pos hd, if_pos h]
  · rw [Hx.pnumsF, if_neg hd]
theorem Hx.pnumsF_le {s : ByteArray} {st : Hx.St} (h : st.pos ≤ s.size) : (Hx.pnumsF s st).2.pos ≤ s.size := by
  unfold Hx.pnumsF
  split
  · split
    · exact h
    · exact Hx.numsF_le _ st [] rfl h
  · exact h
def Hx.psc1 (s : ByteArray) : List Nat × Hx.St := Hx.pnumsF s ⟨0, false⟩
def Hx.psc2 (s : ByteArray) : List Nat × Hx.St := Hx.pnumsF s (Hx.takeF s 47 (Hx.psc1 s).2)

theorem Hx.numsF_nodigit {s : ByteArray} {st : Hx.St} (h : st.bad = false) (hd : ¬ (48 ≤ Hx.byteAt s st.pos ∧ Hx.byteAt s st.pos ≤ 57)) : (Hx.numsF s st []).2.bad = true := by
  rw [Hx.numsF_cont h, Hx.numF_no h hd, Hx.contF_no (by simp)]
theorem Hx.numbersF_bad {s : ByteArray} {c : Nat} {st : Hx.St} (h : st.bad = true) : (Hx.numbersF s c st).2.bad = true := by
  unfold Hx.numbersF
  split
  · exact h
  · rw [Hx.numsF, if_pos h]; exact h
/-- The second list, behind the same beginning. -/
theorem Hx.second_is (s : ByteArray) (st : Hx.St) : (!(Hx.pnumsF s st).2.bad && (Hx.pnumsF s st).2.pos == s.size) = (!(Hx.numbersF s 0 st).2.bad && (Hx.numbersF s 0 st).2.pos == s.size) ∧ ((!(Hx.numbersF s 0 st).2.bad && (Hx.numbersF s 0 st).2.pos == s.size) = true → (Hx.pnumsF s st).1 = (Hx.numbersF s 0 st).1) := by
  cases hb : st.bad
  · by_cases he : st.pos = s.size
    · have hd : ¬ (48 ≤ Hx.byteAt s st.pos ∧ Hx.byteAt s st.pos ≤ 57) := by rw [Hx.byteAt_ge (by omega)]; omega
      have e1 : Hx.pnumsF s st = ([], st) := if_neg hd
      have e2 : Hx.numbersF s 0 st = ([], st) := if_pos (Or.inl ⟨rfl, he⟩)
      rw [e1, e2]; exact ⟨rfl, fun _ => rfl⟩
    · have e2 : Hx.numbersF s 0 st = Hx.numsF s st [] := if_neg (by omega)
      by_cases hd : 48 ≤ Hx.byteAt s st.pos ∧ Hx.byteAt s st.pos ≤ 57
      · have e1 : Hx.pnumsF s st = Hx.numsF s st [] := by rw [Hx.pnumsF, if_pos hd, if_neg (by simp [hb])]
        rw [e1, e2]; exact ⟨rfl, fun _ => rfl⟩
      · have e1 : Hx.pnumsF s st = ([], st) := if_neg hd
        have e3 := Hx.numsF_nodigit hb hd
        rw [e1, e2, e3]
        have e4 : (st.pos == s.size) = false := by simpa using he
        simp only [e4, Bool.and_false, Bool.not_true, Bool.false_and]
        exact ⟨trivial, fun h => by cases h⟩
  · rw [Hx.pnumsF_bad hb, Hx.numbersF_bad hb, hb]
    exact ⟨rfl, fun h => by cases h⟩
theorem Hx.script_is (s : ByteArray) : (!(Hx.psc2 s).2.bad && (Hx.psc2 s).2.pos == s.size) = Hx.scrOk s ∧ (Hx.scrOk s = true → (Hx.psc1 s).1 = (Hx.scr1 s).1 ∧ (Hx.psc2 s).1 = (Hx.scr2 s).1) := by
  by_cases hd : 48 ≤ Hx.byteAt s 0 ∧ Hx.byteAt s 0 ≤ 57
  · have e1 : Hx.psc1 s = Hx.scr1 s := by
      have a1 : Hx.psc1 s = Hx.numsF s ⟨0, false⟩ [] := by rw [Hx.psc1, Hx.pnumsF, if_pos hd, if_neg (by simp)]
      have a2 : Hx.scr1 s = Hx.numsF s ⟨0, false⟩ [] := if_neg (by simp only; omega)
      rw [a1, a2]
    have h2 := Hx.second_is s (Hx.takeF s 47 (Hx.scr1 s).2)
    rw [Hx.psc2, e1]
    exact ⟨h2.1, fun h => ⟨rfl, h2.2 h⟩⟩
  · by_cases h47 : Hx.byteAt s 0 = 47
    · have e1 : Hx.psc1 s = Hx.scr1 s := by
        have a1 : Hx.psc1 s = ([], ⟨0, false⟩) := if_neg hd
        have a2 : Hx.scr1 s = ([], ⟨0, false⟩) := if_pos (Or.inr ⟨by decide, h47⟩)
        rw [a1, a2]
      have h2 := Hx.second_is s (Hx.takeF s 47 (Hx.scr1 s).2)
      rw [Hx.psc2, e1]
      exact ⟨h2.1, fun h => ⟨rfl, h2.2 h⟩⟩
    · have a1 : Hx.psc1 s = ([], ⟨0, false⟩) := if_neg hd
      have b1 : (Hx.takeF s 47 (Hx.psc1 s).2).bad = true := by rw [a1, Hx.takeF_no h47]
      have b2 : (Hx.psc2 s).2.bad = true := by rw [Hx.psc2, Hx.pnumsF_bad b1]; exact b1
      have a2 : Hx.scr1 s = Hx.numsF s ⟨0, false⟩ [] := if_neg (by simp only; omega)
      have b3 : (Hx.scr1 s).2.bad = true := by rw [a2]; exact Hx.numsF_nodigit rfl hd
      have b4 : (Hx.scr2 s).2.bad = true := by
        rw [Hx.scr2]
        exact Hx.numbersF_bad (by rw [Hx.takeF_bad b3]; exact b3)
      have b5 : Hx.scrOk s = false := by rw [Hx.scrOk, b4]; rfl
      rw [b2, b5]
      exact ⟨rfl, fun h => by cases h⟩

set_option maxRecDepth 100000 in
set_option maxHeartbeats 4000000 in
theorem readscript_any (s : ByteArray) (w : World) (hs : s.size ≤ 800) (ht : Tab w) :
    Calls Tryz.prog 29 #[.string s] w fun e w' => Below w.heap.size w w' ∧
      ((Hx.scrOk s = false ∧ e = .returned (.tuple #[.agg #[.slice none 0 0, .slice none 0 0], .bool false])) ∨
       (Hx.scrOk s = true ∧ (Hx.scr1 s).1.length ≤ 801 ∧ (Hx.scr2 s).1.length ≤ 801 ∧ ∃ v1 v2, e = .returned (.tuple #[.agg #[v1, v2], .bool true]) ∧ w'.ownsRow w.heap.size 3 1 v1 (Hx.scr1 s).1.length (ints (nats (Hx.scr1 s).1)) ∧ w'.ownsRow w.heap.size 3 1 v2 (Hx.scr2 s).1.length (ints (nats (Hx.scr2 s).1)))) := by
  have hs1 : s.size ≤ 1000 := by omega
  have hN : 1 < w.heap.size := ht.pos
  have HT := hide ht
  have HIS := hide (Hx.script_is s)
  have P1 : Hid ((Hx.psc1 s).2.pos ≤ s.size) := Hx.pnumsF_le (Nat.zero_le _)
  have P2 : Hid ((Hx.takeF s 47 (Hx.psc1 s).2).pos ≤ s.size) := Hx.takeF_le (by omega) P1.out
  have P3 : Hid ((Hx.psc2 s).2.pos ≤ s.size) := Hx.pnumsF_le P2.out
  clear ht
  go_enter Tryz.func29, Tryz.ntmps29
  go_upto_region 2 with fail
  have HB0 := hide (bA (.cells #[.string s, .int .i64 0, .bool false] 139) (blk_new w #[.slice none 0 0, .slice none 0 0] 84))
  have hsz : (w.alloc (.cells #[.slice none 0 0, .slice none 0 0] 84)).heap.size = w.heap.size + 1 := by simp
  have HRD0 : Hid (Rd 139 s (w.heap.size + 1) ⟨0, false⟩ ((w.alloc (.cells #[.slice none 0 0, .slice none 0 0] 84)).alloc (.cells #[.string s, .int .i64 0, .bool false] 139))) := by
    have := blk_new (w.alloc (.cells #[.slice none 0 0, .slice none 0 0] 84)) #[.string s, .int .i64 0, .bool false] 139
    rw [hsz] at this
    exact this
  have HBE0 := hide (belA (.cells #[.string s, .int .i64 0, .bool false] 139) (belA (.cells #[.slice none 0 0, .slice none 0 0] 84) (Below.refl w.heap.size w)))
  have hsz2 : ((w.alloc (.cells #[.slice none 0 0, .slice none 0 0] 84)).alloc (.cells #[.string s, .int .i64 0, .bool false] 139)).heap.size = w.heap.size + 2 := by simp
  generalize (w.alloc (.cells #[.slice none 0 0, .slice none 0 0] 84)).alloc (.cells #[.string s, .int .i64 0, .bool false] 139) = wa at *
  clear hsz
  go_wp2_with fail
  refine (pnums_any s (w.heap.size + 1) ⟨0, false⟩ wa hs1 (Nat.zero_le _) (by omega) ((unhide HT).below (unhide HBE0)) (unhide HRD0)).mono ?_
  rintro e w1 ⟨v1, rfl, hown1, hlen1, hr1, hg1⟩
  have HOWN1 : Hid (w1.ownsRow (w.heap.size + 2) 3 1 v1 (Hx.psc1 s).1.length (ints (nats (Hx.psc1 s).1))) := by
    show World.ownsRow _ _ _ _ _ _ _
    rw [hsz2] at hown1; exact hown1
  have HL1 : Hid ((Hx.psc1 s).1.length ≤ s.size + 1) := hlen1
  have HR1 : Hid (Rd 139 s (w.heap.size + 1) (Hx.psc1 s).2 w1) := hr1
  have HB1 := hide (blk_kept (unhide HB0) hg1 (by simp))
  have HBE1 := hide ((unhide HBE0).grown hg1 (unhide HBE0).size (by simp))
  have HSZ1 := hide hg1.size
  clear hown1 hlen1 hr1 hg1 HB0 HRD0 HBE0
  go_wp2_with fail
  refine (take_any s (w.heap.size + 1) (Hx.psc1 s).2 _ 47 _ hs1 P1.out rfl (by omega) (unhide HR1)).mono ?_
  rintro e w2 ⟨rfl, hr2, hg2⟩
  have HR2 := hide hr2
  have HB2 := hide (blk_kept (unhide HB1) hg2 (by simp))
  have HBE2 := hide ((unhide HBE1).grown hg2 (unhide HBE1).size (by simp))
  have HOWN2 := hide ((unhide HOWN1).kept hg2 (own_ne (unhide HOWN1) (by omega)))
  have HSZ2 : Hid (w.heap.size + 2 ≤ w2.heap.size) := by have := unhide HSZ1; have := hg2.size; show _ ≤ _; omega
  clear hr2 hg2 HR1 HB1 HBE1 HOWN1 HSZ1
  go_wp2_with fail
  refine (pnums_any s (w.heap.size + 1) (Hx.takeF s 47 (Hx.psc1 s).2) w2 hs1 P2.out (by omega) ((unhide HT).below (unhide HBE2)) (unhide HR2)).mono ?_
  rintro e w3 ⟨v2, rfl, hown3, hlen3, hr3, hg3⟩
  have HOWN3 : Hid (w3.ownsRow (w.heap.size + 2) 3 1 v2 (Hx.psc2 s).1.length (ints (nats (Hx.psc2 s).1))) := own_mono hown3 (unhide HSZ2)
  have HL3 : Hid ((Hx.psc2 s).1.length ≤ s.size + 1) := hlen3
  have HR3 : Hid (Rd 139 s (w.heap.size + 1) (Hx.psc2 s).2 w3) := hr3
  have HB3 := hide (blk_kept (unhide HB2) hg3 (by simp))
  have HBE3 := hide ((unhide HBE2).grown hg3 (unhide HBE2).size (by simp))
  have HOWN1 := hide ((unhide HOWN2).kept hg3 (own_ne (unhide HOWN2) (by omega)))
  have d2 := (unhide HR3).c2
  have e0 : w3.cell? ⟨w.heap.size, 0, none⟩ = some (.slice none 0 0) := blk_cell (unhide HB3) 0
  have e1 : w3.cell? ⟨w.heap.size, 1, none⟩ = some (.slice none 0 0) := blk_cell (unhide HB3) 1
  have ef := blk_free (unhide HB3)
  obtain ⟨a1, c1, rfl⟩ := own_form (unhide HOWN1)
  obtain ⟨a2, c2, rfl⟩ := own_form (unhide HOWN3)
  have hle := Nat.le_refl w.heap.size
  clear hown3 hlen3 hr3 hg3 HB2 HBE2 HOWN2 HR2 HB3 P1 P2
  cases hbad : (Hx.psc2 s).2.bad
  · rw [hbad] at d2
    by_cases hend : s.size ≤ (Hx.psc2 s).2.pos
    · have HOK : Hid (Hx.scrOk s = true) := by
        show _ = _
        rw [← (unhide HIS).1, hbad]
        have : (Hx.psc2 s).2.pos = s.size := by have := P3.out; omega
        simp [this]
      have HE := hide hend
      clear hbad hend
      go_wp2_with (go_at_call 61; refine (ended_yes s _ (Hx.psc2 s).2 _ hs1 P3.out HE.out (unhide HR3)).mono ?_; rintro e w7 ⟨rfl, n7, rfl⟩)
      refine bodyPost_ret (v := .tuple #[.agg #[.slice a1 (Hx.psc1 s).1.length c1, .slice a2 (Hx.psc2 s).1.length c2], .bool true]) (by simp [results, Tryz.results29, go_sem, e0, e1]) rfl ?_
      obtain ⟨q1, q2⟩ := (unhide HIS).2 (unhide HOK)
      rw [← q1, ← q2]
      refine ⟨((below_drewN (unhide HBE3) n7).setCell hle _).setCell hle _, Or.inr ⟨unhide HOK, by have := unhide HL1; omega, by have := unhide HL3; omega, _, _, rfl, ?_, ?_⟩⟩
      · exact own_mono (own_set_low (own_set_low ((unhide HOWN1).kept (grown_drewN _ n7 (some 0)) (own_ne (unhide HOWN1) (by omega))) (by omega) _ _) (by omega) _ _) (by omega)
      · exact own_mono (own_set_low (own_set_low ((unhide HOWN3).kept (grown_drewN _ n7 (some 0)) (own_ne (unhide HOWN3) (by omega))) (by omega) _ _) (by omega) _ _) (by omega)
    · have HOK : Hid (Hx.scrOk s = false) := by
        show _ = _
        rw [← (unhide HIS).1, hbad]
        have : ((Hx.psc2 s).2.pos == s.size) = false := by rw [beq_eq_false_iff_ne]; omega
        simp [this]
      have HE : Hid ((Hx.psc2 s).2.pos < s.size) := show _ < _ by omega
      clear hbad hend
      go_wp2_with (go_at_call 61; refine (ended_no s _ (Hx.psc2 s).2 _ hs1 P3.out HE.out (unhide HR3)).mono ?_; rintro e w7 ⟨rfl, n7, rfl⟩)
      refine bodyPost_ret (v := .tuple #[.agg #[.slice none 0 0, .slice none 0 0], .bool false]) (by simp [results, Tryz.results29, go_sem, e0, e1]) rfl ?_
      exact ⟨((below_drewN (unhide HBE3) n7).setCell hle _).setCell hle _, Or.inl ⟨unhide HOK, rfl⟩⟩
  · rw [hbad] at d2
    have HOK : Hid (Hx.scrOk s = false) := by
      show _ = _
      rw [← (unhide HIS).1, hbad]; rfl
    clear hbad
    go_wp2_with fail
    refine bodyPost_ret (v := .tuple #[.agg #[.slice none 0 0, .slice none 0 0], .bool false]) (by simp [results, Tryz.results29, go_sem, e0, e1]) rfl ?_
    exact ⟨((unhide HBE3).setCell hle _).setCell hle _, Or.inl ⟨unhide HOK, rfl⟩⟩

end Go.Proofs.YtppcnlkhdgmaiabGreatDoor
namespace Go.Proofs.YtppcnlkhdgmaiabGreatDoor
open Go.RowKit

set_option maxRecDepth 100000 in
set_option maxHeartbeats 4000000 in
theorem end_any (J : Nat) (x1 x2 x4 : Int) (sg scap Ln og oo on ocap tg to' tn tcap x hi : Nat) (tx : Int) (w : World) (hsg : sg < w.heap.size) (hog : og < w.heap.size) (htg : tg < w.heap.size)
    (hon : 0 < on) (hon2 : on ≤ 1000) (hxL : x < Ln) (hxt : x < tn)
    (co : w.cell? ⟨og, oo + (on - 1), none⟩ = some (.int .i64 (x : Int))) (ct : w.cell? ⟨tg, to' + x, none⟩ = some (.int .i64 tx)) (cs : w.cell? ⟨sg, x * 10 + 3, none⟩ = some (.int .i64 (hi : Int)))
    (hJ : J ≤ 1000) (hhi : hi ≤ 1000) (htx : -1000000 ≤ tx) (htx2 : tx ≤ 1000000) :
    Calls Tryz.prog 24 #[.agg #[.int .i64 (J : Int), .int .i64 x1, .int .i64 x2, .slice (some ⟨sg, 0, none⟩) Ln scap, .int .i64 x4], .slice (some ⟨og, oo, none⟩) on ocap, .slice (some ⟨tg, to', none⟩) tn tcap] w fun e w' => e = .returned (.int .i64 (tx + J + hi)) ∧ Below w.heap.size w w' := by
  go_enter Tryz.func24, Tryz.ntmps24
  obtain ⟨m, rfl⟩ : ∃ m, on = m + 1 := ⟨on - 1, by omega⟩
  rw [show m + 1 - 1 = m by omega] at co
  go_wp2_with fail
  have hbox := blk_new w #[.int .i64 (J : Int), .int .i64 x1, .int .i64 x2, .slice (some ⟨sg, 0, none⟩) Ln scap, .int .i64 x4] 49
  have hbe : Below w.heap.size w (w.alloc (.cells #[.int .i64 (J : Int), .int .i64 x1, .int .i64 x2, .slice (some ⟨sg, 0, none⟩) Ln scap, .int .i64 x4] 49)) := (Below.refl _ _).alloc (Nat.le_refl _) _
  generalize w.alloc (.cells #[.int .i64 (J : Int), .int .i64 x1, .int .i64 x2, .slice (some ⟨sg, 0, none⟩) Ln scap, .int .i64 x4] 49) = w1 at *
  have p0 : w1.cell? ⟨w.heap.size, 0, none⟩ = some (.int .i64 (J : Int)) := blk_cell hbox 0
  have p3 : w1.cell? ⟨w.heap.size, 3, none⟩ = some (.slice (some ⟨sg, 0, none⟩) Ln scap) := blk_cell hbox 3
  have ct1 : w1.cell? ⟨tg, to' + x, none⟩ = some (.int .i64 tx) := by rw [hbe.cell (p := ⟨tg, to' + x, none⟩) htg]; exact ct
  have cs1 : w1.cell? ⟨sg, x * 10 + 3, none⟩ = some (.int .i64 (hi : Int)) := by rw [hbe.cell (p := ⟨sg, x * 10 + 3, none⟩) hsg]; exact cs
  have HBE := hide hbe
  clear hbe hbox ct cs co
  have g1 : (x : Int) < (Ln : Int) := by omega
  have g2 : (x : Int) < (tn : Int) := by omega
  go_quiet (fail)
  go_wp2_with fail
  go_returns
  exact ⟨by go_num, (unhide HBE).grown (grown_drewN _ _ none) (unhide HBE).size (by simp)⟩


set_option maxRecDepth 100000 in
set_option maxHeartbeats 4000000 in
theorem lookfirst_any (l : List Int) (lv : Value) (n : Nat) (time ni : Int) (w : World) (hl : w.ownsRow 0 3 1 lv l.length (ints l)) (hll : l.length ≤ 100000) (hn : n ≤ l.length) (hni : ni = (n : Int)) :
    Calls Tryz.prog 34 #[lv, .int .i64 ni, .int .i64 time] w fun e w' => e = .returned (.int .i64 (Hx.firstF l time n)) ∧ Below w.heap.size w w' := by
  subst hni
  obtain ⟨ao, capl, rfl⟩ := own_form hl
  have HL := hide hl
  clear hl
  go_enter Tryz.func34, Tryz.ntmps34
  go_wp2_with fail
  go_loopg [7] (l.length - n) (fun gk kk wr => ∃ k : Nat, n ≤ k ∧ k ≤ l.length ∧ gk = l.length - k ∧ kk = .int .i64 (k : Int) ∧ Hx.firstF l time k = Hx.firstF l time n ∧ wr = w)
  case atStart => exact ⟨n, Nat.le_refl _, hn, rfl, rfl, rfl, rfl⟩
  case round =>
    obtain ⟨k, hk1, hk, rfl, rfl, hfin, rfl⟩ := hrel
    rw [Hx.firstF] at hfin
    by_cases hlt : k < l.length
    · rw [dif_pos hlt] at hfin
      obtain ⟨gl, capl2, el, _, hgl⟩ := own_pos (unhide HL) (by omega)
      cases el
      obtain ⟨v, hv⟩ : ∃ v, v = l[k] := ⟨_, rfl⟩
      rw [← hv] at hfin
      have cl : wr.cell? ⟨gl, k, none⟩ = some (.int .i64 v) := by
        rw [(unhide HL).cellAt k (by omega)]
        exact ints_at _ k _ (by rw [hv]; exact List.getElem?_eq_getElem hlt)
      clear hv
      by_cases hge : time ≤ v
      · rw [if_pos hge] at hfin
        have HF := hide hfin
        clear hfin
        go_wp2_with fail
        go_returns
        exact ⟨by rw [← unhide HF]; rfl, Below.refl _ _⟩
      · rw [if_neg hge] at hfin
        have HF := hide hfin
        clear hfin
        go_wp2_with fail
        go_roundg (l.length - (k + 1))
        case measure => omega
        case rel => exact ⟨k + 1, by omega, by omega, rfl, by go_num, unhide HF, rfl⟩
    · rw [dif_neg hlt] at hfin
      have HF := hide hfin
      clear hfin
      go_wp2_with fail
      go_returns
      exact ⟨by rw [← unhide HF]; rfl, Below.refl _ _⟩

set_option maxRecDepth 100000 in
set_option maxHeartbeats 4000000 in
theorem joined_any (s t : ByteArray) (w : World) (hs1 : s.size ≤ 100000) (ht1 : t.size ≤ 100000) :
    Calls Tryz.prog 35 #[.string s, .string t] w fun e w' => e = .returned (.string (Hx.joinedF s t)) ∧ Below w.heap.size w w' := by
  go_enter Tryz.func35, Tryz.ntmps35
  cases he : s.toList.isEmpty
  · have hj : Hx.joinedF s t = s ++ ⟨#[44]⟩ ++ t := by rw [Hx.joinedF, he]; rfl
    rw [hj]
    go_wp2_with fail
    all_goals first | omega | skip
    go_returns
    exact ⟨rfl, Below.refl _ _⟩
  · have hj : Hx.joinedF s t = t := by rw [Hx.joinedF, he]; rfl
    rw [hj]
    go_wp2_with fail
    go_returns
    exact ⟨rfl, Below.refl _ _⟩
end Go.Proofs.YtppcnlkhdgmaiabGreatDoor
namespace Go.Proofs.YtppcnlkhdgmaiabGreatDoor
open Go.RowKit


theorem grown_over {w a c : World} {row r : Option Nat} (h : w.grownBy a row) (g : a.grownBy c r) (hr : ∀ k, r = some k → w.heap.size ≤ k) : w.grownBy c row :=
  ⟨g.os.trans h.os, g.tape.trans h.tape, g.output.trans h.output, Nat.le_trans h.size g.size, fun i hi hne => (g.block i (Nat.lt_of_lt_of_le hi h.size) (fun e => by have := hr i e.symm; omega)).trans (h.block i hi hne)⟩

/-- What numbers answers, once it is known that there are some. -/
def NumsSaid (s : ByteArray) (b : Nat) (st : Hx.St) (ci : Int) (w : World) : Prop :=
  Calls Tryz.prog 64 #[.pointer (some ⟨b, 0, none⟩), .int .u8 ci] w fun e w' => ∃ v, e = .returned v ∧ Rd 108 s b (Hx.numsF s st []).2 w' ∧ w'.ownsRow w.heap.size 3 1 v (Hx.numsF s st []).1.length (ints (nats (Hx.numsF s st []).1)) ∧ (Hx.numsF s st []).1.length ≤ s.size + 1 ∧ w.grownBy w' (some b)

set_option maxRecDepth 100000 in
set_option maxHeartbeats 4000000 in
theorem nums_zero (s : ByteArray) (b : Nat) (st : Hx.St) (w : World) (hs : s.size ≤ 1000000) (hp : st.pos < s.size) (hr : Rd 108 s b st w) : NumsSaid s b st 0 w := by
  unfold NumsSaid
  have c0 := hr.c0
  have c1 := hr.c1
  have c2 := hr.c2
  have hb := hr.lt
  have HR := hide hr
  clear hr
  have hne : ((st.pos : Int) == (s.size : Int)) = false := by simp; omega
  obtain ⟨i0, hi, hz0, hz1, hz2⟩ := info_parts Tryz.info3
  have HI := hide hi
  have HZ0 := hide hz0
  have HZ1 := hide hz1
  have HZ2 := hide hz2
  clear hi hz0 hz1 hz2
  go_enter Tryz.func64, Tryz.ntmps64
  go_wp2_with fail
  go_quiet (fail)
  go_wp2_with fail
  clear c0 c1 c2
  have hpl : st.pos ≤ s.size := by omega
  go_loopg [5, 6] (s.size + 1 - st.pos) (fun gk v on wr => ∃ (st' : Hx.St) (acc : List Nat) (o : Bool), gk = (if o then s.size + 1 - st'.pos else 0) ∧ on = .bool o ∧ st'.pos ≤ s.size ∧ acc.length ≤ s.size + 1 ∧ (o = true → acc.length ≤ st'.pos) ∧ (if o then Hx.numsF s st' acc else (acc, st')) = Hx.numsF s st [] ∧ Rd 108 s b st' wr ∧ wr.ownsRow w.heap.size 3 1 v acc.length (ints (nats acc)) ∧ w.grownBy wr (some b))
  case atStart => exact ⟨st, [], true, rfl, rfl, hpl, by simp, by simp, rfl, Rd.drewN (unhide HR) _, World.ownsRow_nil _ _ _ _, grown_drewN _ _ _⟩
  case round =>
    clear HR
    obtain ⟨st', acc, o, rfl, rfl, hpos, hacc, hacc2, hfin, hrd, hown, hgr⟩ := hrel
    obtain ⟨ao, cap, rfl⟩ := own_form hown
    have d2 := hrd.c2
    have HRD := hide hrd
    have HOWN := hide hown
    have HGR := hide hgr
    have HFIN := hide hfin
    clear hrd hown hgr hfin
    cases o
    · have HF : Hid ((acc, st') = Hx.numsF s st []) := unhide HFIN
      clear HFIN
      go_wp2_with fail
      go_returns
      exact ⟨_, rfl, by rw [← unhide HF]; exact unhide HRD, by rw [← unhide HF]; exact unhide HOWN, by rw [← unhide HF]; exact hacc, unhide HGR⟩
    · have HF : Hid (Hx.numsF s st' acc = Hx.numsF s st []) := unhide HFIN
      clear HFIN
      have hacc3 := hacc2 rfl
      clear hacc2
      obtain ⟨pos, bad⟩ := st'
      simp only at hpos hacc3 d2
      cases bad
      · go_wp2_with fail
        refine (refnum_any s b ⟨pos, false⟩ _ 3 _ hs hpos (by omega) (by omega) rfl (unhide HRD)).mono ?_
        rintro e w5 ⟨rfl, hr5, hg5⟩
        have HR5 := hide hr5
        have HO5 := hide ((unhide HOWN).kept hg5 (own_ne (unhide HOWN) hb))
        have HG5 := hide (grown_trans (unhide HGR) hg5)
        have hsz5 := (unhide HG5).size
        clear hr5 hg5 HRD HOWN HGR
        have hP := Hx.numF_le (s := s) (m := 3) (st := ⟨pos, false⟩) hpos
        have hG := Hx.numF_ge s 3 ⟨pos, false⟩
        simp only at hG
        have HNX : Hid (Hx.numsF s ⟨pos, false⟩ acc = if (Hx.nextF s 44 (Hx.numF s 3 ⟨pos, false⟩).2).1 = true then Hx.numsF s (Hx.nextF s 44 (Hx.numF s 3 ⟨pos, false⟩).2).2 (acc ++ [(Hx.numF s 3 ⟨pos, false⟩).1]) else (acc ++ [(Hx.numF s 3 ⟨pos, false⟩).1], (Hx.nextF s 44 (Hx.numF s 3 ⟨pos, false⟩).2).2)) := by
          show _ = _
          rw [Hx.numsF, if_neg (by simp)]
          split <;> simp_all
        obtain ⟨r, hr⟩ : ∃ r, r = Hx.numF s 3 ⟨pos, false⟩ := ⟨_, rfl⟩
        rw [← hr] at HR5 hP hG HNX ⊢
        clear hr
        obtain ⟨n, t5⟩ := r
        simp only at HR5 hP hG HNX ⊢
        have hal : acc.length < 10000000 := by omega
        go_wp2_with (at_builtin; refine wpList_append_own _ rfl _ _ 64 rfl w.heap.size 3 i0 (.int .i64 0) 1 8 Tryz.underlying64 (unhide HI) (unhide HZ0) (unhide HZ1) (unhide HZ2) rfl (by decide) _ _ _ rfl ((unhide HO5).alloc _) ⟨w5.heap.size, 0, none⟩ 1 1 [.int .i64 (n : Int)] rfl rfl (one_news w5 (.int .i64 (n : Int)) 3) (by simp [Value.oneCell']) (by unfold maxLen; omega) (by omega) (by simp; omega) ?_; intro v' w6 hown' hgrow' _; have HO6 := hide hown'; have HGG6 := hide hgrow'; clear hown' hgrow')
        have HO6' : Hid (w6.ownsRow w.heap.size 3 1 v' (acc ++ [n]).length (ints (nats (acc ++ [n])))) := by
          show World.ownsRow _ _ _ _ _ _ _
          have e1 : ints (nats (acc ++ [n])) = ints (nats acc) ++ [.int .i64 (n : Int)] := by simp [ints, nats]
          rw [e1, List.length_append]; exact unhide HO6
        have HR6 : Hid (Rd 108 s b t5 w6) := ((unhide HR5).alloc _).kept (unhide HGG6) (fun e => by have := ((unhide HO5).lt b e.symm).1; omega)
        have HG6 : Hid (w.grownBy w6 (some b)) := grown_over (grown_trans (unhide HG5) (grown_alloc _ _ _)) (unhide HGG6) (fun k e => ((unhide HO5).lt k e).1)
        clear HO6 HGG6 HR5 HG5 HO5
        cases hq : (Hx.nextF s 44 t5).1
        · have hn : t5.bad = true ∨ Hx.byteAt s t5.pos ≠ 44 := by
            unfold Hx.nextF at hq
            split at hq
            · cases hq
            · rename_i g
              cases hb5 : t5.bad
              · exact Or.inr (fun e => g ⟨hb5, e⟩)
              · exact Or.inl rfl
          have HF2 : Hid ((acc ++ [n], t5) = Hx.numsF s st []) := by
            show _ = _
            rw [← unhide HF, unhide HNX, hq, if_neg (by simp), Hx.nextF_no (by rintro ⟨g1, g2⟩; rcases hn with g | g <;> simp_all)]
          refine (next_no s b t5 _ 44 _ hs hP rfl (by omega) hn (unhide HR6)).mono ?_
          rintro e w7 ⟨rfl, hr7, hg7⟩
          have HR7 := hide hr7
          have HO7 := hide ((unhide HO6').kept hg7 (own_ne (unhide HO6') hb))
          have HG7 := hide (grown_trans (unhide HG6) hg7)
          clear hr7 hg7 HR6 HO6' HG6 HNX hn hq
          go_wp2_with fail
          go_roundg 0
          case measure => first | omega | (simp; omega)
          case rel => exact ⟨t5, acc ++ [n], false, rfl, rfl, hP, by simp; omega, by simp, unhide HF2, unhide HR7, unhide HO7, unhide HG7⟩
        · obtain ⟨hb5, hby, hlt5, he5⟩ := Hx.nextF_in (by omega) hq
          obtain ⟨pos5, bad5⟩ := t5
          simp only at hb5 hby hlt5 he5 hG hP
          subst hb5
          have HF2 : Hid (Hx.numsF s ⟨pos5 + 1, false⟩ (acc ++ [n]) = Hx.numsF s st []) := by
            show _ = _
            rw [← unhide HF, unhide HNX, if_pos hq, he5]
          refine (next_yes s b pos5 _ 44 _ hs rfl (by omega) hby (unhide HR6)).mono ?_
          rintro e w7 ⟨rfl, hr7, hg7⟩
          have HR7 := hide hr7
          have HO7 := hide ((unhide HO6').kept hg7 (own_ne (unhide HO6') hb))
          have HG7 := hide (grown_trans (unhide HG6) hg7)
          clear hr7 hg7 HR6 HO6' HG6 HNX hq he5 hby
          go_wp2_with fail
          go_roundg (s.size + 1 - (pos5 + 1))
          case measure => first | omega | (simp; omega)
          case rel => exact ⟨⟨pos5 + 1, false⟩, acc ++ [n], true, rfl, rfl, by simp; omega, by simp; omega, by simp; omega, unhide HF2, unhide HR7, unhide HO7, unhide HG7⟩
      · have HF2 : Hid ((acc, ⟨pos, true⟩) = Hx.numsF s st []) := by
          show _ = _
          rw [← unhide HF, Hx.numsF, if_pos rfl]
        go_wp2_with fail
        go_returns
        exact ⟨_, rfl, by rw [← unhide HF2]; exact unhide HRD, by rw [← unhide HF2]; exact unhide HOWN, by rw [← unhide HF2]; exact hacc, unhide HGR⟩

set_option maxRecDepth 100000 in
set_option maxHeartbeats 4000000 in
theorem nums_end (s : ByteArray) (b : Nat) (st : Hx.St) (w : World) (hs : s.size ≤ 1000000) (hp : st.pos = s.size) (hr : Rd 108 s b st w) : NumsSaid s b st 47 w := by
  unfold NumsSaid
  have c0 := hr.c0
  have c1 := hr.c1
  have c2 := hr.c2
  have hb := hr.lt
  have HR := hide hr
  clear hr
  have hne : ¬ (st.pos : Int) < (s.size : Int) := by omega
  have hne2 : ¬ st.pos < s.size := by omega
  obtain ⟨i0, hi, hz0, hz1, hz2⟩ := info_parts Tryz.info3
  have HI := hide hi
  have HZ0 := hide hz0
  have HZ1 := hide hz1
  have HZ2 := hide hz2
  clear hi hz0 hz1 hz2
  go_enter Tryz.func64, Tryz.ntmps64
  go_wp2_with fail
  go_quiet (fail)
  go_wp2_with fail
  clear c0 c1 c2
  have hpl : st.pos ≤ s.size := by omega
  go_loopg [5, 6] (s.size + 1 - st.pos) (fun gk v on wr => ∃ (st' : Hx.St) (acc : List Nat) (o : Bool), gk = (if o then s.size + 1 - st'.pos else 0) ∧ on = .bool o ∧ st'.pos ≤ s.size ∧ acc.length ≤ s.size + 1 ∧ (o = true → acc.length ≤ st'.pos) ∧ (if o then Hx.numsF s st' acc else (acc, st')) = Hx.numsF s st [] ∧ Rd 108 s b st' wr ∧ wr.ownsRow w.heap.size 3 1 v acc.length (ints (nats acc)) ∧ w.grownBy wr (some b))
  case atStart => exact ⟨st, [], true, rfl, rfl, hpl, by simp, by simp, rfl, Rd.drewN (unhide HR) _, World.ownsRow_nil _ _ _ _, grown_drewN _ _ _⟩
  case round =>
    clear HR
    obtain ⟨st', acc, o, rfl, rfl, hpos, hacc, hacc2, hfin, hrd, hown, hgr⟩ := hrel
    obtain ⟨ao, cap, rfl⟩ := own_form hown
    have d2 := hrd.c2
    have HRD := hide hrd
    have HOWN := hide hown
    have HGR := hide hgr
    have HFIN := hide hfin
    clear hrd hown hgr hfin
    cases o
    · have HF : Hid ((acc, st') = Hx.numsF s st []) := unhide HFIN
      clear HFIN
      go_wp2_with fail
      go_returns
      exact ⟨_, rfl, by rw [← unhide HF]; exact unhide HRD, by rw [← unhide HF]; exact unhide HOWN, by rw [← unhide HF]; exact hacc, unhide HGR⟩
    · have HF : Hid (Hx.numsF s st' acc = Hx.numsF s st []) := unhide HFIN
      clear HFIN
      have hacc3 := hacc2 rfl
      clear hacc2
      obtain ⟨pos, bad⟩ := st'
      simp only at hpos hacc3 d2
      cases bad
      · go_wp2_with fail
        refine (refnum_any s b ⟨pos, false⟩ _ 3 _ hs hpos (by omega) (by omega) rfl (unhide HRD)).mono ?_
        rintro e w5 ⟨rfl, hr5, hg5⟩
        have HR5 := hide hr5
        have HO5 := hide ((unhide HOWN).kept hg5 (own_ne (unhide HOWN) hb))
        have HG5 := hide (grown_trans (unhide HGR) hg5)
        have hsz5 := (unhide HG5).size
        clear hr5 hg5 HRD HOWN HGR
        have hP := Hx.numF_le (s := s) (m := 3) (st := ⟨pos, false⟩) hpos
        have hG := Hx.numF_ge s 3 ⟨pos, false⟩
        simp only at hG
        have HNX : Hid (Hx.numsF s ⟨pos, false⟩ acc = if (Hx.nextF s 44 (Hx.numF s 3 ⟨pos, false⟩).2).1 = true then Hx.numsF s (Hx.nextF s 44 (Hx.numF s 3 ⟨pos, false⟩).2).2 (acc ++ [(Hx.numF s 3 ⟨pos, false⟩).1]) else (acc ++ [(Hx.numF s 3 ⟨pos, false⟩).1], (Hx.nextF s 44 (Hx.numF s 3 ⟨pos, false⟩).2).2)) := by
          show _ = _
          rw [Hx.numsF, if_neg (by simp)]
          split <;> simp_all
        obtain ⟨r, hr⟩ : ∃ r, r = Hx.numF s 3 ⟨pos, false⟩ := ⟨_, rfl⟩
        rw [← hr] at HR5 hP hG HNX ⊢
        clear hr
        obtain ⟨n, t5⟩ := r
        simp only at HR5 hP hG HNX ⊢
        have hal : acc.length < 10000000 := by omega
        go_wp2_with (at_builtin; refine wpList_append_own _ rfl _ _ 64 rfl w.heap.size 3 i0 (.int .i64 0) 1 8 Tryz.underlying64 (unhide HI) (unhide HZ0) (unhide HZ1) (unhide HZ2) rfl (by decide) _ _ _ rfl ((unhide HO5).alloc _) ⟨w5.heap.size, 0, none⟩ 1 1 [.int .i64 (n : Int)] rfl rfl (one_news w5 (.int .i64 (n : Int)) 3) (by simp [Value.oneCell']) (by unfold maxLen; omega) (by omega) (by simp; omega) ?_; intro v' w6 hown' hgrow' _; have HO6 := hide hown'; have HGG6 := hide hgrow'; clear hown' hgrow')
        have HO6' : Hid (w6.ownsRow w.heap.size 3 1 v' (acc ++ [n]).length (ints (nats (acc ++ [n])))) := by
          show World.ownsRow _ _ _ _ _ _ _
          have e1 : ints (nats (acc ++ [n])) = ints (nats acc) ++ [.int .i64 (n : Int)] := by simp [ints, nats]
          rw [e1, List.length_append]; exact unhide HO6
        have HR6 : Hid (Rd 108 s b t5 w6) := ((unhide HR5).alloc _).kept (unhide HGG6) (fun e => by have := ((unhide HO5).lt b e.symm).1; omega)
        have HG6 : Hid (w.grownBy w6 (some b)) := grown_over (grown_trans (unhide HG5) (grown_alloc _ _ _)) (unhide HGG6) (fun k e => ((unhide HO5).lt k e).1)
        clear HO6 HGG6 HR5 HG5 HO5
        cases hq : (Hx.nextF s 44 t5).1
        · have hn : t5.bad = true ∨ Hx.byteAt s t5.pos ≠ 44 := by
            unfold Hx.nextF at hq
            split at hq
            · cases hq
            · rename_i g
              cases hb5 : t5.bad
              · exact Or.inr (fun e => g ⟨hb5, e⟩)
              · exact Or.inl rfl
          have HF2 : Hid ((acc ++ [n], t5) = Hx.numsF s st []) := by
            show _ = _
            rw [← unhide HF, unhide HNX, hq, if_neg (by simp), Hx.nextF_no (by rintro ⟨g1, g2⟩; rcases hn with g | g <;> simp_all)]
          refine (next_no s b t5 _ 44 _ hs hP rfl (by omega) hn (unhide HR6)).mono ?_
          rintro e w7 ⟨rfl, hr7, hg7⟩
          have HR7 := hide hr7
          have HO7 := hide ((unhide HO6').kept hg7 (own_ne (unhide HO6') hb))
          have HG7 := hide (grown_trans (unhide HG6) hg7)
          clear hr7 hg7 HR6 HO6' HG6 HNX hn hq
          go_wp2_with fail
          go_roundg 0
          case measure => first | omega | (simp; omega)
          case rel => exact ⟨t5, acc ++ [n], false, rfl, rfl, hP, by simp; omega, by simp, unhide HF2, unhide HR7, unhide HO7, unhide HG7⟩
        · obtain ⟨hb5, hby, hlt5, he5⟩ := Hx.nextF_in (by omega) hq
          obtain ⟨pos5, bad5⟩ := t5
          simp only at hb5 hby hlt5 he5 hG hP
          subst hb5
          have HF2 : Hid (Hx.numsF s ⟨pos5 + 1, false⟩ (acc ++ [n]) = Hx.numsF s st []) := by
            show _ = _
            rw [← unhide HF, unhide HNX, if_pos hq, he5]
          refine (next_yes s b pos5 _ 44 _ hs rfl (by omega) hby (unhide HR6)).mono ?_
          rintro e w7 ⟨rfl, hr7, hg7⟩
          have HR7 := hide hr7
          have HO7 := hide ((unhide HO6').kept hg7 (own_ne (unhide HO6') hb))
          have HG7 := hide (grown_trans (unhide HG6) hg7)
          clear hr7 hg7 HR6 HO6' HG6 HNX hq he5 hby
          go_wp2_with fail
          go_roundg (s.size + 1 - (pos5 + 1))
          case measure => first | omega | (simp; omega)
          case rel => exact ⟨⟨pos5 + 1, false⟩, acc ++ [n], true, rfl, rfl, by simp; omega, by simp; omega, by simp; omega, unhide HF2, unhide HR7, unhide HO7, unhide HG7⟩
      · have HF2 : Hid ((acc, ⟨pos, true⟩) = Hx.numsF s st []) := by
          show _ = _
          rw [← unhide HF, Hx.numsF, if_pos rfl]
        go_wp2_with fail
        go_returns
        exact ⟨_, rfl, by rw [← unhide HF2]; exact unhide HRD, by rw [← unhide HF2]; exact unhide HOWN, by rw [← unhide HF2]; exact hacc, unhide HGR⟩

set_option maxRecDepth 100000 in
set_option maxHeartbeats 4000000 in
theorem nums_byte (s : ByteArray) (b : Nat) (st : Hx.St) (w : World) (hs : s.size ≤ 1000000) (hp : st.pos < s.size) (hby : ((s[st.pos]'hp).toNat : Int) ≠ 47) (hr : Rd 108 s b st w) : NumsSaid s b st 47 w := by
  unfold NumsSaid
  have c0 := hr.c0
  have c1 := hr.c1
  have c2 := hr.c2
  have hb := hr.lt
  have HR := hide hr
  clear hr
  have hne : (((s[st.pos]'hp).toNat : Int) == 47) = false := by simp; omega
  have hlt : (st.pos : Int) < (s.size : Int) := by omega
  obtain ⟨i0, hi, hz0, hz1, hz2⟩ := info_parts Tryz.info3
  have HI := hide hi
  have HZ0 := hide hz0
  have HZ1 := hide hz1
  have HZ2 := hide hz2
  clear hi hz0 hz1 hz2
  go_enter Tryz.func64, Tryz.ntmps64
  go_wp2_with fail
  go_quiet (fail)
  go_wp2_with fail
  clear c0 c1 c2
  have hpl : st.pos ≤ s.size := by omega
  go_loopg [5, 6] (s.size + 1 - st.pos) (fun gk v on wr => ∃ (st' : Hx.St) (acc : List Nat) (o : Bool), gk = (if o then s.size + 1 - st'.pos else 0) ∧ on = .bool o ∧ st'.pos ≤ s.size ∧ acc.length ≤ s.size + 1 ∧ (o = true → acc.length ≤ st'.pos) ∧ (if o then Hx.numsF s st' acc else (acc, st')) = Hx.numsF s st [] ∧ Rd 108 s b st' wr ∧ wr.ownsRow w.heap.size 3 1 v acc.length (ints (nats acc)) ∧ w.grownBy wr (some b))
  case atStart => exact ⟨st, [], true, rfl, rfl, hpl, by simp, by simp, rfl, Rd.drewN (unhide HR) _, World.ownsRow_nil _ _ _ _, grown_drewN _ _ _⟩
  case round =>
    clear HR
    obtain ⟨st', acc, o, rfl, rfl, hpos, hacc, hacc2, hfin, hrd, hown, hgr⟩ := hrel
    obtain ⟨ao, cap, rfl⟩ := own_form hown
    have d2 := hrd.c2
    have HRD := hide hrd
    have HOWN := hide hown
    have HGR := hide hgr
    have HFIN := hide hfin
    clear hrd hown hgr hfin
    cases o
    · have HF : Hid ((acc, st') = Hx.numsF s st []) := unhide HFIN
      clear HFIN
      go_wp2_with fail
      go_returns
      exact ⟨_, rfl, by rw [← unhide HF]; exact unhide HRD, by rw [← unhide HF]; exact unhide HOWN, by rw [← unhide HF]; exact hacc, unhide HGR⟩
    · have HF : Hid (Hx.numsF s st' acc = Hx.numsF s st []) := unhide HFIN
      clear HFIN
      have hacc3 := hacc2 rfl
      clear hacc2
      obtain ⟨pos, bad⟩ := st'
      simp only at hpos hacc3 d2
      cases bad
      · go_wp2_with fail
        refine (refnum_any s b ⟨pos, false⟩ _ 3 _ hs hpos (by omega) (by omega) rfl (unhide HRD)).mono ?_
        rintro e w5 ⟨rfl, hr5, hg5⟩
        have HR5 := hide hr5
        have HO5 := hide ((unhide HOWN).kept hg5 (own_ne (unhide HOWN) hb))
        have HG5 := hide (grown_trans (unhide HGR) hg5)
        have hsz5 := (unhide HG5).size
        clear hr5 hg5 HRD HOWN HGR
        have hP := Hx.numF_le (s := s) (m := 3) (st := ⟨pos, false⟩) hpos
        have hG := Hx.numF_ge s 3 ⟨pos, false⟩
        simp only at hG
        have HNX : Hid (Hx.numsF s ⟨pos, false⟩ acc = if (Hx.nextF s 44 (Hx.numF s 3 ⟨pos, false⟩).2).1 = true then Hx.numsF s (Hx.nextF s 44 (Hx.numF s 3 ⟨pos, false⟩).2).2 (acc ++ [(Hx.numF s 3 ⟨pos, false⟩).1]) else (acc ++ [(Hx.numF s 3 ⟨pos, false⟩).1], (Hx.nextF s 44 (Hx.numF s 3 ⟨pos, false⟩).2).2)) := by
          show _ = _
          rw [Hx.numsF, if_neg (by simp)]
          split <;> simp_all
        obtain ⟨r, hr⟩ : ∃ r, r = Hx.numF s 3 ⟨pos, false⟩ := ⟨_, rfl⟩
        rw [← hr] at HR5 hP hG HNX ⊢
        clear hr
        obtain ⟨n, t5⟩ := r
        simp only at HR5 hP hG HNX ⊢
        have hal : acc.length < 10000000 := by omega
        go_wp2_with (at_builtin; refine wpList_append_own _ rfl _ _ 64 rfl w.heap.size 3 i0 (.int .i64 0) 1 8 Tryz.underlying64 (unhide HI) (unhide HZ0) (unhide HZ1) (unhide HZ2) rfl (by decide) _ _ _ rfl ((unhide HO5).alloc _) ⟨w5.heap.size, 0, none⟩ 1 1 [.int .i64 (n : Int)] rfl rfl (one_news w5 (.int .i64 (n : Int)) 3) (by simp [Value.oneCell']) (by unfold maxLen; omega) (by omega) (by simp; omega) ?_; intro v' w6 hown' hgrow' _; have HO6 := hide hown'; have HGG6 := hide hgrow'; clear hown' hgrow')
        have HO6' : Hid (w6.ownsRow w.heap.size 3 1 v' (acc ++ [n]).length (ints (nats (acc ++ [n])))) := by
          show World.ownsRow _ _ _ _ _ _ _
          have e1 : ints (nats (acc ++ [n])) = ints (nats acc) ++ [.int .i64 (n : Int)] := by simp [ints, nats]
          rw [e1, List.length_append]; exact unhide HO6
        have HR6 : Hid (Rd 108 s b t5 w6) := ((unhide HR5).alloc _).kept (unhide HGG6) (fun e => by have := ((unhide HO5).lt b e.symm).1; omega)
        have HG6 : Hid (w.grownBy w6 (some b)) := grown_over (grown_trans (unhide HG5) (grown_alloc _ _ _)) (unhide HGG6) (fun k e => ((unhide HO5).lt k e).1)
        clear HO6 HGG6 HR5 HG5 HO5
        cases hq : (Hx.nextF s 44 t5).1
        · have hn : t5.bad = true ∨ Hx.byteAt s t5.pos ≠ 44 := by
            unfold Hx.nextF at hq
            split at hq
            · cases hq
            · rename_i g
              cases hb5 : t5.bad
              · exact Or.inr (fun e => g ⟨hb5, e⟩)
              · exact Or.inl rfl
          have HF2 : Hid ((acc ++ [n], t5) = Hx.numsF s st []) := by
            show _ = _
            rw [← unhide HF, unhide HNX, hq, if_neg (by simp), Hx.nextF_no (by rintro ⟨g1, g2⟩; rcases hn with g | g <;> simp_all)]
          refine (next_no s b t5 _ 44 _ hs hP rfl (by omega) hn (unhide HR6)).mono ?_
          rintro e w7 ⟨rfl, hr7, hg7⟩
          have HR7 := hide hr7
          have HO7 := hide ((unhide HO6').kept hg7 (own_ne (unhide HO6') hb))
          have HG7 := hide (grown_trans (unhide HG6) hg7)
          clear hr7 hg7 HR6 HO6' HG6 HNX hn hq
          go_wp2_with fail
          go_roundg 0
          case measure => first | omega | (simp; omega)
          case rel => exact ⟨t5, acc ++ [n], false, rfl, rfl, hP, by simp; omega, by simp, unhide HF2, unhide HR7, unhide HO7, unhide HG7⟩
        · obtain ⟨hb5, hby, hlt5, he5⟩ := Hx.nextF_in (by omega) hq
          obtain ⟨pos5, bad5⟩ := t5
          simp only at hb5 hby hlt5 he5 hG hP
          subst hb5
          have HF2 : Hid (Hx.numsF s ⟨pos5 + 1, false⟩ (acc ++ [n]) = Hx.numsF s st []) := by
            show _ = _
            rw [← unhide HF, unhide HNX, if_pos hq, he5]
          refine (next_yes s b pos5 _ 44 _ hs rfl (by omega) hby (unhide HR6)).mono ?_
          rintro e w7 ⟨rfl, hr7, hg7⟩
          have HR7 := hide hr7
          have HO7 := hide ((unhide HO6').kept hg7 (own_ne (unhide HO6') hb))
          have HG7 := hide (grown_trans (unhide HG6) hg7)
          clear hr7 hg7 HR6 HO6' HG6 HNX hq he5 hby
          go_wp2_with fail
          go_roundg (s.size + 1 - (pos5 + 1))
          case measure => first | omega | (simp; omega)
          case rel => exact ⟨⟨pos5 + 1, false⟩, acc ++ [n], true, rfl, rfl, by simp; omega, by simp; omega, by simp; omega, unhide HF2, unhide HR7, unhide HO7, unhide HG7⟩
      · have HF2 : Hid ((acc, ⟨pos, true⟩) = Hx.numsF s st []) := by
          show _ = _
          rw [← unhide HF, Hx.numsF, if_pos rfl]
        go_wp2_with fail
        go_returns
        exact ⟨_, rfl, by rw [← unhide HF2]; exact unhide HRD, by rw [← unhide HF2]; exact unhide HOWN, by rw [← unhide HF2]; exact hacc, unhide HGR⟩

set_option maxRecDepth 100000 in
set_option maxHeartbeats 4000000 in
theorem none_zero (s : ByteArray) (b : Nat) (st : Hx.St) (w : World) (hp : st.pos = s.size) (hr : Rd 108 s b st w) :
    Calls Tryz.prog 64 #[.pointer (some ⟨b, 0, none⟩), .int .u8 0] w fun e w' => e = .returned (.slice none 0 0) ∧ Rd 108 s b st w' ∧ w.grownBy w' (some b) := by
  have c0 := hr.c0
  have c1 := hr.c1
  have HR := hide hr
  clear hr
  have hne : ((st.pos : Int) == (s.size : Int)) = true := by simp; omega
  go_enter Tryz.func64, Tryz.ntmps64
  go_wp2_with fail
  go_quiet (fail)
  go_wp2_with fail
  go_returns
  exact ⟨rfl, Rd.drewN (unhide HR) _, grown_drewN _ _ _⟩
set_option maxRecDepth 100000 in
set_option maxHeartbeats 4000000 in
theorem none_byte (s : ByteArray) (b : Nat) (st : Hx.St) (w : World) (hp : st.pos < s.size) (hby : ((s[st.pos]'hp).toNat : Int) = 47) (hr : Rd 108 s b st w) :
    Calls Tryz.prog 64 #[.pointer (some ⟨b, 0, none⟩), .int .u8 47] w fun e w' => e = .returned (.slice none 0 0) ∧ Rd 108 s b st w' ∧ w.grownBy w' (some b) := by
  have c0 := hr.c0
  have c1 := hr.c1
  have HR := hide hr
  clear hr
  have hne : (((s[st.pos]'hp).toNat : Int) == 47) = true := by simp; omega
  have hlt : (st.pos : Int) < (s.size : Int) := by omega
  clear hby
  go_enter Tryz.func64, Tryz.ntmps64
  go_wp2_with fail
  go_quiet (fail)
  go_wp2_with fail
  go_returns
  exact ⟨rfl, Rd.drewN (unhide HR) _, grown_drewN _ _ _⟩
end Go.Proofs.YtppcnlkhdgmaiabGreatDoor
namespace Go.Proofs.YtppcnlkhdgmaiabGreatDoor
open Go.RowKit

def NumbersSaid (s : ByteArray) (b : Nat) (st : Hx.St) (c : Nat) (w : World) : Prop :=
  Calls Tryz.prog 64 #[.pointer (some ⟨b, 0, none⟩), .int .u8 (c : Int)] w fun e w' => ∃ v, e = .returned v ∧ Rd 108 s b (Hx.numbersF s c st).2 w' ∧ w'.ownsRow w.heap.size 3 1 v (Hx.numbersF s c st).1.length (ints (nats (Hx.numbersF s c st).1)) ∧ (Hx.numbersF s c st).1.length ≤ s.size + 1 ∧ w.grownBy w' (some b)
theorem numbers_zero (s : ByteArray) (b : Nat) (st : Hx.St) (w : World) (hs : s.size ≤ 1000000) (hp : st.pos ≤ s.size) (hr : Rd 108 s b st w) : NumbersSaid s b st 0 w := by
  unfold NumbersSaid
  by_cases h : st.pos = s.size
  · have e : Hx.numbersF s 0 st = ([], st) := if_pos (Or.inl ⟨rfl, h⟩)
    rw [e]
    refine (none_zero s b st w h hr).mono ?_
    rintro _ w' ⟨rfl, h1, h2⟩
    exact ⟨_, rfl, h1, World.ownsRow_nil _ _ _ _, Nat.zero_le _, h2⟩
  · have e : Hx.numbersF s 0 st = Hx.numsF s st [] := if_neg (by rintro (⟨_, g⟩ | ⟨g, _⟩); exact h g; exact g rfl)
    rw [e]
    exact nums_zero s b st w hs (by omega) hr
theorem numbers_bar (s : ByteArray) (b : Nat) (st : Hx.St) (w : World) (hs : s.size ≤ 1000000) (hp : st.pos ≤ s.size) (hr : Rd 108 s b st w) : NumbersSaid s b st 47 w := by
  unfold NumbersSaid
  by_cases h : Hx.byteAt s st.pos = 47
  · have hlt : st.pos < s.size := Hx.byteAt_in (by omega)
    have e : Hx.numbersF s 47 st = ([], st) := if_pos (Or.inr ⟨by omega, h⟩)
    rw [e]
    refine (none_byte s b st w hlt (by rw [Hx.byteAt_lt hlt] at h; omega) hr).mono ?_
    rintro _ w' ⟨rfl, h1, h2⟩
    exact ⟨_, rfl, h1, World.ownsRow_nil _ _ _ _, Nat.zero_le _, h2⟩
  · have e : Hx.numbersF s 47 st = Hx.numsF s st [] := if_neg (by rintro (⟨g, _⟩ | ⟨_, g⟩); omega; exact h g)
    rw [e]
    by_cases hlt : st.pos < s.size
    · exact nums_byte s b st w hs hlt (by rw [Hx.byteAt_lt hlt] at h; omega) hr
    · exact nums_end s b st w hs (by omega) hr
end Go.Proofs.YtppcnlkhdgmaiabGreatDoor
namespace Go.Proofs.YtppcnlkhdgmaiabGreatDoor
open Go.RowKit


set_option maxRecDepth 100000 in
set_option maxHeartbeats 4000000 in
theorem script_any (s : ByteArray) (w : World) (hs : s.size ≤ 1000000) :
    Calls Tryz.prog 32 #[.string s] w fun e w' => Below w.heap.size w w' ∧ ∃ va vb, e = .returned (.tuple #[va, vb, .bool (Hx.scrOk s)]) ∧ w'.ownsRow w.heap.size 3 1 va (Hx.scr1 s).1.length (ints (nats (Hx.scr1 s).1)) ∧ w'.ownsRow w.heap.size 3 1 vb (Hx.scr2 s).1.length (ints (nats (Hx.scr2 s).1)) ∧ (Hx.scr1 s).1.length ≤ s.size + 1 ∧ (Hx.scr2 s).1.length ≤ s.size + 1 := by
  go_enter Tryz.func32, Tryz.ntmps32
  go_upto_region 2 with fail
  obtain ⟨w1, hw1⟩ : ∃ w1, w1 = w.alloc (.cells #[.string s, .int .i64 0, .bool false] 108) := ⟨_, rfl⟩
  have hr : Rd 108 s w.heap.size ⟨0, false⟩ w1 := by rw [hw1]; exact blk_new w _ _
  have hbe : Below w.heap.size w w1 := by rw [hw1]; exact (Below.refl _ _).alloc (Nat.le_refl _) _
  rw [← hw1]
  have hsz1 : w1.heap.size = w.heap.size + 1 := by rw [hw1, size_alloc_]
  clear hw1
  have HR := hide hr
  have HBE := hide hbe
  clear hr hbe
  go_wp2_with fail
  refine (numbers_bar s _ ⟨0, false⟩ _ hs (Nat.zero_le _) (unhide HR)).mono ?_
  rintro e w2 ⟨va, rfl, hr2, ho2, hl2, hg2⟩
  have HR2 : Hid (Rd 108 s w.heap.size (Hx.scr1 s).2 w2) := hr2
  have HO2 : Hid (w2.ownsRow (w.heap.size + 1) 3 1 va (Hx.scr1 s).1.length (ints (nats (Hx.scr1 s).1))) := by rw [hsz1] at ho2; exact ho2
  have HL2 : Hid ((Hx.scr1 s).1.length ≤ s.size + 1) := hl2
  have HBE2 := hide ((unhide HBE).grown hg2 (unhide HBE).size (fun k e => by cases e; exact Nat.le_refl _))
  clear hr2 ho2 hl2 hg2 HR HBE hsz1
  have P2 : (Hx.scr1 s).2.pos ≤ s.size := Hx.numbersF_le (Nat.zero_le _)
  go_wp2_with fail
  refine (must_any s _ (Hx.scr1 s).2 _ 47 _ hs P2 rfl (by omega) (unhide HR2)).mono ?_
  rintro e w3 ⟨rfl, hr3, hg3⟩
  have HR3 := hide hr3
  have HO3 := hide ((unhide HO2).kept hg3 (own_ne (unhide HO2) (by omega)))
  have HBE3 := hide ((unhide HBE2).grown hg3 (unhide HBE2).size (fun k e => by cases e; exact Nat.le_refl _))
  clear hr3 hg3 HR2 HO2 HBE2
  have P3 : (Hx.takeF s 47 (Hx.scr1 s).2).pos ≤ s.size := Hx.takeF_le (by omega) P2
  go_wp2_with fail
  refine (numbers_zero s _ _ _ hs P3 (unhide HR3)).mono ?_
  rintro e w4 ⟨vb, rfl, hr4, ho4, hl4, hg4⟩
  have HR4 : Hid (Rd 108 s w.heap.size (Hx.scr2 s).2 w4) := hr4
  have HO4 : Hid (w4.ownsRow w.heap.size 3 1 vb (Hx.scr2 s).1.length (ints (nats (Hx.scr2 s).1))) := World.ownsRow.mono ho4 (unhide HBE3).size
  have HOA : Hid (w4.ownsRow w.heap.size 3 1 va (Hx.scr1 s).1.length (ints (nats (Hx.scr1 s).1))) := World.ownsRow.mono ((unhide HO3).kept hg4 (own_ne (unhide HO3) (by omega))) (by omega)
  have HL4 : Hid ((Hx.scr2 s).1.length ≤ s.size + 1) := hl4
  have HBE4 := hide ((unhide HBE3).grown hg4 (unhide HBE3).size (fun k e => by cases e; exact Nat.le_refl _))
  clear hr4 ho4 hl4 hg4 HR3 HO3 HBE3 P2 P3
  have HOK : Hid (Hx.scrOk s = (!(Hx.scr2 s).2.bad && (Hx.scr2 s).2.pos == s.size)) := by show _ = _; rfl
  obtain ⟨st, hst⟩ : ∃ st, st = (Hx.scr2 s).2 := ⟨_, rfl⟩
  rw [← hst] at HR4 HOK
  clear hst
  obtain ⟨pos, bad⟩ := st
  have c1 : w4.cell? ⟨w.heap.size, 1, none⟩ = some (.int .i64 (pos : Int)) := (unhide HR4).c1
  have c2 : w4.cell? ⟨w.heap.size, 2, none⟩ = some (.bool bad) := (unhide HR4).c2
  simp only at HOK
  cases bad
  · by_cases he : pos = s.size
    · have hq : ((pos : Int) == (s.size : Int)) = true := by simp; omega
      have HK : Hid (Hx.scrOk s = true) := by show _ = _; rw [unhide HOK, he]; simp
      clear he
      go_wp2_with fail
      go_quiet (fail)
      go_wp2_with fail
      go_returns
      exact ⟨(unhide HBE4).grown (grown_drewN _ _ none) (unhide HBE4).size (by simp), va, vb, by rw [unhide HK]; rfl, unhide HOA, unhide HO4, unhide HL2, unhide HL4⟩
    · have hq : ((pos : Int) == (s.size : Int)) = false := by simp; omega
      have HK : Hid (Hx.scrOk s = false) := by show _ = _; rw [unhide HOK]; simp [he]
      clear he
      go_wp2_with fail
      go_quiet (fail)
      go_wp2_with fail
      go_returns
      exact ⟨(unhide HBE4).grown (grown_drewN _ _ none) (unhide HBE4).size (by simp), va, vb, by rw [unhide HK]; rfl, unhide HOA, unhide HO4, unhide HL2, unhide HL4⟩
  · have HK : Hid (Hx.scrOk s = false) := by show _ = _; rw [unhide HOK]; simp
    go_wp2_with fail
    go_quiet (fail)
    go_wp2_with fail
    go_returns
    exact ⟨(unhide HBE4).grown (grown_drewN _ _ none) (unhide HBE4).size (by simp), va, vb, by rw [unhide HK]; rfl, unhide HOA, unhide HO4, unhide HL2, unhide HL4⟩
end Go.Proofs.YtppcnlkhdgmaiabGreatDoor
namespace Go.Proofs.YtppcnlkhdgmaiabGreatDoor
open Go.RowKit

/-- The looks, from the first on. -/
def Hx.lookL (clock : List Nat) : List Int := Hx.sumsF 0 clock
theorem Hx.sumsF_snoc (t : Nat) (cs : List Nat) (c : Nat) : Hx.sumsF t (cs ++ [c]) = Hx.sumsF t cs ++ [((t + cs.sum + c : Nat) : Int)] := by
  induction cs generalizing t with
  | nil => simp [Hx.sumsF]
  | cons d cs ih =>
    show ((t : Int)) :: Hx.sumsF (t + d) (cs ++ [c]) = _
    rw [ih (t + d)]
    show _ = ((t : Int)) :: (Hx.sumsF (t + d) cs ++ _)
    rw [List.sum_cons, Nat.add_assoc t d]
theorem Hx.sumsF_len (t : Nat) (cs : List Nat) : (Hx.sumsF t cs).length = cs.length + 1 := by
  induction cs generalizing t with
  | nil => rfl
  | cons d cs ih => show _ + 1 = _; rw [ih]; rfl
theorem Hx.sumsF_last (t : Nat) (cs : List Nat) : (Hx.sumsF t cs)[cs.length]? = some ((t + cs.sum : Nat) : Int) := by
  induction cs generalizing t with
  | nil => simp [Hx.sumsF]
  | cons d cs ih =>
    show (((t : Int)) :: Hx.sumsF (t + d) cs)[cs.length + 1]? = _
    rw [List.getElem?_cons_succ, ih, List.sum_cons, Nat.add_assoc]
theorem own_drew {w : World} {base : Nat} {e : TypeId} {size : Nat} {v : Value} {n : Nat} {xs : List Value} (h : w.ownsRow base e size v n xs) : w.drew.ownsRow base e size v n xs := h.kept (grown_drewN w 1 none) (by cases v.ownBlock <;> simp)
theorem sum_take_le (l : List Nat) (k : Nat) : (l.take k).sum ≤ l.sum := by
  induction l generalizing k with
  | nil => simp
  | cons a l ih =>
    cases k with
    | zero => simp
    | succ k => simp only [List.take_succ_cons, List.sum_cons]; have := ih k; omega

set_option maxRecDepth 100000 in
set_option maxHeartbeats 4000000 in
theorem looks_any (clock : List Nat) (cv : Value) (w : World) (hc : w.ownsRow 0 3 1 cv clock.length (ints (nats clock))) (hl : clock.length ≤ 1000) (hs : clock.sum ≤ 1000000) :
    Calls Tryz.prog 33 #[cv] w fun e w' => ∃ v, e = .returned v ∧ w'.ownsRow w.heap.size 3 1 v (clock.length + 1) (ints (Hx.lookL clock)) ∧ Below w.heap.size w w' := by
  obtain ⟨i0, hi, hz0, hz1, hz2⟩ := info_parts Tryz.info3
  have HI := hide hi
  have HZ0 := hide hz0
  have HZ1 := hide hz1
  have HZ2 := hide hz2
  obtain ⟨ac, capc, rfl⟩ := own_form hc
  have HC := hide hc
  have HSUM := hide hs
  clear hi hz0 hz1 hz2 hc hs
  have hown0 := World.ownsRow_lit (base := w.heap.size) (e := 3) (size := 1) w #[Value.int IntKind.i64 0] 1 (Nat.le_refl _) (by unfold maxLen; omega) rfl
  have HOWN0 := hide hown0
  clear hown0
  go_enter Tryz.func33, Tryz.ntmps33
  go_wp2_with fail
  go_loopg [3, 4] clock.length (fun gk v ii wr => ∃ k : Nat, k ≤ clock.length ∧ gk = clock.length - k ∧ ii = .int .i64 (k : Int) ∧ wr.ownsRow w.heap.size 3 1 v (k + 1) (ints (Hx.sumsF 0 (clock.take k))) ∧ Below w.heap.size w wr)
  case atStart => exact ⟨0, Nat.zero_le _, rfl, rfl, by rw [List.take_zero]; exact unhide HOWN0, (Below.refl _ _).alloc (Nat.le_refl _) _⟩
  case round =>
    clear HOWN0
    obtain ⟨k, hk, rfl, rfl, hown, hbe⟩ := hrel
    obtain ⟨gv, capv, ev, hgv1, hgv2⟩ := own_pos hown (by omega)
    subst ev
    have HOWN := hide hown
    have HBE := hide hbe
    have hbs := hbe.size
    by_cases hlt : k < clock.length
    · obtain ⟨c, hcc⟩ : ∃ c, clock[k]? = some c := ⟨_, List.getElem?_eq_getElem hlt⟩
      obtain ⟨gc, capc2, ec, _, hgc⟩ := own_pos (unhide HC) (by omega)
      cases ec
      have htk : (clock.take k).length = k := by rw [List.length_take]; omega
      obtain ⟨t, ht⟩ : ∃ t, t = (clock.take k).sum := ⟨_, rfl⟩
      have cv1 : wr.cell? ⟨gv, k, none⟩ = some (.int .i64 (t : Int)) := by
        rw [hown.cellAt k (by omega)]
        refine ints_at _ _ _ ?_
        have := Hx.sumsF_last 0 (clock.take k)
        rw [htk, Nat.zero_add, ← ht] at this
        exact this
      have cc1 : wr.cell? ⟨gc, k, none⟩ = some (.int .i64 (c : Int)) := by
        have : w.cell? ⟨gc, k, none⟩ = some (.int .i64 (c : Int)) := by
          rw [(unhide HC).cellAt k (by omega)]
          exact ints_at _ _ _ (nats_at _ _ _ hcc)
        rw [hbe.cell (World.block_lt_of_cell? w _ this)]; exact this
      have htake : clock.take (k + 1) = clock.take k ++ [c] := by rw [List.take_add_one, hcc]; rfl
      have hsle : t + c ≤ 1000000 := by
        have h1 := sum_take_le clock (k + 1)
        rw [htake, List.sum_append, ← ht] at h1
        have := unhide HSUM
        simp at h1
        omega
      have HNEW : Hid (ints (Hx.sumsF 0 (clock.take (k + 1))) = ints (Hx.sumsF 0 (clock.take k)) ++ [.int .i64 ((t : Int) + (c : Int))]) := by
        show _ = _
        rw [htake, Hx.sumsF_snoc, ints_snoc, ← ht, Nat.zero_add, Int.natCast_add]
      have hltI : (k : Int) < (clock.length : Int) := by omega
      have hkI : (k : Int) < (k : Int) + 1 := by omega
      have hk0 : (0 : Int) ≤ (k : Int) := by omega
      have hwr : IntKind.i64.wrap ((t : Int) + (c : Int)) = (t : Int) + (c : Int) := IntWalk.i64_in _ ⟨by omega, by omega⟩
      clear hown hbe hcc ht htake htk
      go_upto_region 5 with fail
      go_region_law (refine step_append_own rfl (.tmp 12) (.tmp 22) 64 rfl w.heap.size 3 i0 (.int .i64 0) 1 8 Tryz.underlying64 (unhide HI) (unhide HZ0) (unhide HZ1) (unhide HZ2) rfl (by decide) (.slice (some ⟨gv, 0, none⟩) (k + 1) capv) (k + 1) (ints (Hx.sumsF 0 (clock.take k))) (by simp [Act.eval]) (own_drew ((unhide HOWN).alloc _)) ⟨wr.heap.size, 0, none⟩ 1 1 [.int .i64 ((t : Int) + (c : Int))] (by simp [Act.eval]) rfl (news_new wr [.int .i64 ((t : Int) + (c : Int))] 3) (by intro u hu; rw [List.mem_singleton.1 hu]; rfl) (by unfold maxLen; omega) (by omega) (by simp; omega) ?_; intro v' w3 hown' hgrow'; have O3 := hide hown'; have G3 := hide hgrow'; clear hown' hgrow')
      all_goals
        go_wp2_with fail
        go_roundg (clock.length - (k + 1))
        case measure => omega
        case rel =>
          refine ⟨k + 1, by omega, rfl, by go_num, by rw [unhide HNEW]; exact unhide O3, ?_⟩
          · exact (((unhide HBE).alloc (unhide HBE).size _).drew).grown (unhide G3) (by have h9 : wr.heap.size ≤ ((wr.alloc (.cells #[.int .i64 ((t : Int) + (c : Int))] 3)).drew).heap.size := (((Below.refl wr.heap.size wr).alloc (Nat.le_refl _) (.cells #[.int .i64 ((t : Int) + (c : Int))] 3)).drew).size; omega) (fun k2 e => ((unhide HOWN).lt k2 e).1)
    · have hke : k = clock.length := by omega
      subst hke
      rw [List.take_length] at HOWN
      have hltI : ¬ (clock.length : Int) < (clock.length : Int) := by omega
      clear hown hbe
      go_wp2_with fail
      go_returns
      exact ⟨_, rfl, unhide HOWN, unhide HBE⟩

end Go.Proofs.YtppcnlkhdgmaiabGreatDoor
namespace Go.Proofs.YtppcnlkhdgmaiabGreatDoor
open Go.RowKit

theorem decF_itoa (n : Nat) : Hx.decF n = Lib.itoa (n : Int) := by
  have e : ∀ n, Hx.decF n = Lib.decDigits n := by
    intro n
    induction n using Hx.decF.induct with
    | case1 n h => rw [Hx.decF, if_pos h, Lib.decDigits, dif_pos h]
    | case2 n h ih => rw [Hx.decF, if_neg h, Lib.decDigits, dif_neg h, ih]
  rw [e, Lib.itoa, if_neg (by omega)]
  simp
theorem nameB_nm (pl no : Nat) (h : no < 10) : nameB pl no = Hx.nmB pl no := by
  rw [nameB, Hx.decF_one h]; rfl
/-- A step of a table, as the document's Name takes it. -/
abbrev tsAgg (y : Hx.TStp) : Value := .agg #[.int .i64 (y.pl : Int), .int .i64 (y.no : Int), .int .i64 (y.lo : Int), .int .i64 (y.hi : Int), .bool y.rest, .int .i64 (y.mn : Int), .int .i64 (y.mx : Int), .int .i64 (y.t : Int), .int .i64 y.out, .int .i64 y.inn]
theorem tsname_any (y : Hx.TStp) (w : World) (h : Hx.TOk y) : Calls Tryz.prog 21 #[tsAgg y] w fun e w' => e = .returned (.string ⟨#[UInt8.ofNat (97 + y.pl), UInt8.ofNat (48 + y.no)]⟩) ∧ Below w.heap.size w w' := by
  refine (name_any ⟨y.pl, y.no, ⟨y.lo, y.hi, y.rest, y.mn, y.mx⟩⟩ (y.t : Int) y.out y.inn w (by have := h.pl; simp only; omega) (by have := h.no; simp only; omega)).mono ?_
  rintro e w' ⟨rfl, hb⟩
  refine ⟨?_, hb⟩
  simp only
  rw [nameB_nm _ _ h.no]
  rfl
theorem dec_any (n : Nat) (w : World) (hn : n ≤ 1000000) (ni : Int) (hni : ni = (n : Int)) : Calls Tryz.prog 36 #[.int .i64 ni] w fun e w' => e = .returned (.string ⟨(Lib.itoa (n : Int)).toArray⟩) ∧ w' = w := by
  refine (decimal_any n ni w hn hni).mono ?_
  rintro e w' ⟨rfl, rfl⟩
  exact ⟨by rw [decF_itoa], rfl⟩
theorem Hx.firstF_cases (L : List Int) (x : Int) (n : Nat) : ∀ k, L.length - k = n → Hx.firstF L x k = -1 ∨ ∃ a : Nat, Hx.firstF L x k = (a : Int) ∧ k ≤ a ∧ a < L.length := by
  induction n with
  | zero => intro k hk; exact Or.inl (Hx.firstF_end (by omega))
  | succ n ih =>
    intro k hk
    have hlt : k < L.length := by omega
    by_cases h : x ≤ L[k]
    · exact Or.inr ⟨k, Hx.firstF_here (List.getElem?_eq_getElem hlt) h, Nat.le_refl _, hlt⟩
    · rw [Hx.firstF_next (List.getElem?_eq_getElem hlt) h]
      rcases ih (k + 1) (by omega) with h2 | ⟨a, h2, h3, h4⟩
      · exact Or.inl h2
      · exact Or.inr ⟨a, h2, by omega, h4⟩
theorem Hx.sumsF_bound (t : Nat) (cs : List Nat) : ∀ v ∈ Hx.sumsF t cs, ∃ n : Nat, v = (n : Int) ∧ n ≤ t + cs.sum := by
  induction cs generalizing t with
  | nil => intro v hv; rw [List.mem_singleton.1 hv]; exact ⟨t, rfl, by simp⟩
  | cons c cs ih =>
    intro v hv
    rcases List.mem_cons.1 hv with rfl | hv
    · exact ⟨t, rfl, by omega⟩
    · obtain ⟨n, e, h⟩ := ih (t + c) v hv
      exact ⟨n, e, by rw [List.sum_cons]; omega⟩
theorem ts_cells {w : World} {g cap : Nat} {l : List Hx.TStp} {k : Nat} {y : Hx.TStp} (h : w.ownsRow 0 53 10 (.slice (some ⟨g, 0, none⟩) l.length cap) l.length (tssCells l)) (hy : l[k]? = some y) :
    w.cell? ⟨g, k * 10, none⟩ = some (.int .i64 (y.pl : Int)) ∧ w.cell? ⟨g, k * 10 + 1, none⟩ = some (.int .i64 (y.no : Int)) ∧ w.cell? ⟨g, k * 10 + 2, none⟩ = some (.int .i64 (y.lo : Int)) ∧ w.cell? ⟨g, k * 10 + 3, none⟩ = some (.int .i64 (y.hi : Int)) ∧ w.cell? ⟨g, k * 10 + 4, none⟩ = some (.bool y.rest) ∧ w.cell? ⟨g, k * 10 + 5, none⟩ = some (.int .i64 (y.mn : Int)) ∧ w.cell? ⟨g, k * 10 + 6, none⟩ = some (.int .i64 (y.mx : Int)) ∧ w.cell? ⟨g, k * 10 + 7, none⟩ = some (.int .i64 (y.t : Int)) ∧ w.cell? ⟨g, k * 10 + 8, none⟩ = some (.int .i64 y.out) ∧ w.cell? ⟨g, k * 10 + 9, none⟩ = some (.int .i64 y.inn) := by
  have cx : ∀ t, t < 10 → w.cell? ⟨g, k * 10 + t, none⟩ = (tsCells y)[t]? := fun t ht => own_ts h k y hy t ht
  exact ⟨cx 0 (by omega), cx 1 (by omega), cx 2 (by omega), cx 3 (by omega), cx 4 (by omega), cx 5 (by omega), cx 6 (by omega), cx 7 (by omega), cx 8 (by omega), cx 9 (by omega)⟩
theorem joined_list (s t : List UInt8) : Hx.joinedF ⟨s.toArray⟩ ⟨t.toArray⟩ = ⟨(Hx.joinB s t).toArray⟩ := by
  unfold Hx.joinedF Hx.joinB
  have e : (⟨s.toArray⟩ : ByteArray).toList.isEmpty = s.isEmpty := by
    rw [Lib.toList_data]
  rw [e]
  cases s with
  | nil => simp
  | cons a s =>
    simp only [List.isEmpty_cons, reduceCtorEq, if_false, Bool.false_eq_true]
    rw [show (⟨#[44]⟩ : ByteArray) = ⟨([44] : List UInt8).toArray⟩ from rfl, bytes_app, bytes_app]

end Go.Proofs.YtppcnlkhdgmaiabGreatDoor
