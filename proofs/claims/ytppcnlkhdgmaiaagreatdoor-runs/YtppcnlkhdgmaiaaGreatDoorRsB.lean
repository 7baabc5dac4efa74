/- What the program's readScript does. -/
import Derived.Test.YtppcnlkhdgmaiaaGreatDoorRsA
namespace Go.Proofs.YtppcnlkhdgmaiaaGreatDoor
open Go.RowKit

theorem Hx.pnumsF_bad {s : ByteArray} {st : Hx.St} (h : st.bad = true) : (Hx.pnumsF s st).2 = st := by
  by_cases hd : 48 ≤ Hx.byteAt s st.pos ∧ Hx.byteAt s st.pos ≤ 57
  · rw [Hx.pnumsF, if_pos hd, if_pos h]
  · rw [Hx.pnumsF, if_neg hd]
theorem Hx.pnumsF_le {s : ByteArray} {st : Hx.St} (h : st.pos ≤ s.size) : (Hx.pnumsF s st).2.pos ≤ s.size := by
  unfold Hx.pnumsF
  split
  · split
    · exact h
    · exact Hx.numsF_le _ st [] rfl h
  · exact h
def Hx.psc1 (s : ByteArray) : List Nat × Hx.St := Hx.pnumsF s ⟨0, false⟩
def Hx.psc2 (s : ByteArray) : List Nat × Hx.St := Hx.pnumsF s (Hx.takeF s 47 (Hx.psc1 s).2)

theorem Hx.numsF_nodigit {s : ByteArray} {st : Hx.St} (h : st.bad = false) (hd : ¬ (48 ≤ Hx.byteAt s st.pos ∧ Hx.byteAt s st.pos ≤ 57)) : (Hx.numsF s st []).2.bad = true := by
  rw [Hx.numsF_cont h, Hx.numF_no h hd, Hx.contF_no (by simp)]
theorem Hx.numbersF_bad {s : ByteArray} {c : Nat} {st : Hx.St} (h : st.bad = true) : (Hx.numbersF s c st).2.bad = true := by
  unfold Hx.numbersF
  split
  · exact h
  · rw [Hx.numsF, if_pos h]; exact h
/-- The second list, behind the same beginning. -/
theorem Hx.second_is (s : ByteArray) (st : Hx.St) : (!(Hx.pnumsF s st).2.bad && (Hx.pnumsF s st).2.pos == s.size) = (!(Hx.numbersF s 0 st).2.bad && (Hx.numbersF s 0 st).2.pos == s.size) ∧ ((!(Hx.numbersF s 0 st).2.bad && (Hx.numbersF s 0 st).2.pos == s.size) = true → (Hx.pnumsF s st).1 = (Hx.numbersF s 0 st).1) := by
  cases hb : st.bad
  · by_cases he : st.pos = s.size
    · have hd : ¬ (48 ≤ Hx.byteAt s st.pos ∧ Hx.byteAt s st.pos ≤ 57) := by rw [Hx.byteAt_ge (by omega)]; omega
      have e1 : Hx.pnumsF s st = ([], st) := if_neg hd
      have e2 : Hx.numbersF s 0 st = ([], st) := if_pos (Or.inl ⟨rfl, he⟩)
      rw [e1, e2]; exact ⟨rfl, fun _ => rfl⟩
    · have e2 : Hx.numbersF s 0 st = Hx.numsF s st [] := if_neg (by omega)
      by_cases hd : 48 ≤ Hx.byteAt s st.pos ∧ Hx.byteAt s st.pos ≤ 57
      · have e1 : Hx.pnumsF s st = Hx.numsF s st [] := by rw [Hx.pnumsF, if_pos hd, if_neg (by simp [hb])]
        rw [e1, e2]; exact ⟨rfl, fun _ => rfl⟩
      · have e1 : Hx.pnumsF s st = ([], st) := if_neg hd
        have e3 := Hx.numsF_nodigit hb hd
        rw [e1, e2, e3]
        have e4 : (st.pos == s.size) = false := by simpa using he
        simp only [e4, Bool.and_false, Bool.not_true, Bool.false_and]
        exact ⟨trivial, fun h => by cases h⟩
  · rw [Hx.pnumsF_bad hb, Hx.numbersF_bad hb, hb]
    exact ⟨rfl, fun h => by cases h⟩
theorem Hx.script_is (s : ByteArray) : (!(Hx.psc2 s).2.bad && (Hx.psc2 s).2.pos == s.size) = Hx.scrOk s ∧ (Hx.scrOk s = true → (Hx.psc1 s).1 = (Hx.scr1 s).1 ∧ (Hx.psc2 s).1 = (Hx.scr2 s).1) := by
  by_cases hd : 48 ≤ Hx.byteAt s 0 ∧ Hx.byteAt s 0 ≤ 57
  · have e1 : Hx.psc1 s = Hx.scr1 s := by
      have a1 : Hx.psc1 s = Hx.numsF s ⟨0, false⟩ [] := by rw [Hx.psc1, Hx.pnumsF, if_pos hd, if_neg (by simp)]
      have a2 : Hx.scr1 s = Hx.numsF s ⟨0, false⟩ [] := if_neg (by simp only; omega)
      rw [a1, a2]
    have h2 := Hx.second_is s (Hx.takeF s 47 (Hx.scr1 s).2)
    rw [Hx.psc2, e1]
    exact ⟨h2.1, fun h => ⟨rfl, h2.2 h⟩⟩
  · by_cases h47 : Hx.byteAt s 0 = 47
    · have e1 : Hx.psc1 s = Hx.scr1 s := by
        have a1 : Hx.psc1 s = ([], ⟨0, false⟩) := if_neg hd
        have a2 : Hx.scr1 s = ([], ⟨0, false⟩) := if_pos (Or.inr ⟨by decide, h47⟩)
        rw [a1, a2]
      have h2 := Hx.second_is s (Hx.takeF s 47 (Hx.scr1 s).2)
      rw [Hx.psc2, e1]
      exact ⟨h2.1, fun h => ⟨rfl, h2.2 h⟩⟩
    · have a1 : Hx.psc1 s = ([], ⟨0, false⟩) := if_neg hd
      have b1 : (Hx.takeF s 47 (Hx.psc1 s).2).bad = true := by rw [a1, Hx.takeF_no h47]
      have b2 : (Hx.psc2 s).2.bad = true := by rw [Hx.psc2, Hx.pnumsF_bad b1]; exact b1
      have a2 : Hx.scr1 s = Hx.numsF s ⟨0, false⟩ [] := if_neg (by simp only; omega)
      have b3 : (Hx.scr1 s).2.bad = true := by rw [a2]; exact Hx.numsF_nodigit rfl hd
      have b4 : (Hx.scr2 s).2.bad = true := by
        rw [Hx.scr2]
        exact Hx.numbersF_bad (by rw [Hx.takeF_bad b3]; exact b3)
      have b5 : Hx.scrOk s = false := by rw [Hx.scrOk, b4]; rfl
      rw [b2, b5]
      exact ⟨rfl, fun h => by cases h⟩

set_option maxRecDepth 100000 in
set_option maxHeartbeats 4000000 in
theorem readscript_any (s : ByteArray) (w : World) (hs : s.size ≤ 800) (ht : Tab w) :
    Calls Tryz.prog 32 #[.string s] w fun e w' => Below w.heap.size w w' ∧
      ((Hx.scrOk s = false ∧ e = .returned (.tuple #[.agg #[.slice none 0 0, .slice none 0 0], .bool false])) ∨
       (Hx.scrOk s = true ∧ (Hx.scr1 s).1.length ≤ 801 ∧ (Hx.scr2 s).1.length ≤ 801 ∧ ∃ v1 v2, e = .returned (.tuple #[.agg #[v1, v2], .bool true]) ∧ w'.ownsRow w.heap.size 3 1 v1 (Hx.scr1 s).1.length (ints (nats (Hx.scr1 s).1)) ∧ w'.ownsRow w.heap.size 3 1 v2 (Hx.scr2 s).1.length (ints (nats (Hx.scr2 s).1)))) := by
  have hs1 : s.size ≤ 1000 := by omega
  have hN : 1 < w.heap.size := ht.pos
  have HT := hide ht
  have HIS := hide (Hx.script_is s)
  have P1 : Hid ((Hx.psc1 s).2.pos ≤ s.size) := Hx.pnumsF_le (Nat.zero_le _)
  have P2 : Hid ((Hx.takeF s 47 (Hx.psc1 s).2).pos ≤ s.size) := Hx.takeF_le (by omega) P1.out
  have P3 : Hid ((Hx.psc2 s).2.pos ≤ s.size) := Hx.pnumsF_le P2.out
  clear ht
  go_enter Tryz.func32, Tryz.ntmps32
  go_upto_region 2 with fail
  have HB0 := hide (bA (.cells #[.string s, .int .i64 0, .bool false] 139) (blk_new w #[.slice none 0 0, .slice none 0 0] 84))
  have hsz : (w.alloc (.cells #[.slice none 0 0, .slice none 0 0] 84)).heap.size = w.heap.size + 1 := by simp
  have HRD0 : Hid (Rd 139 s (w.heap.size + 1) ⟨0, false⟩ ((w.alloc (.cells #[.slice none 0 0, .slice none 0 0] 84)).alloc (.cells #[.string s, .int .i64 0, .bool false] 139))) := by
    have := blk_new (w.alloc (.cells #[.slice none 0 0, .slice none 0 0] 84)) #[.string s, .int .i64 0, .bool false] 139
    rw [hsz] at this
    exact this
  have HBE0 := hide (belA (.cells #[.string s, .int .i64 0, .bool false] 139) (belA (.cells #[.slice none 0 0, .slice none 0 0] 84) (Below.refl w.heap.size w)))
  have hsz2 : ((w.alloc (.cells #[.slice none 0 0, .slice none 0 0] 84)).alloc (.cells #[.string s, .int .i64 0, .bool false] 139)).heap.size = w.heap.size + 2 := by simp
  generalize (w.alloc (.cells #[.slice none 0 0, .slice none 0 0] 84)).alloc (.cells #[.string s, .int .i64 0, .bool false] 139) = wa at *
  clear hsz
  go_wp2_with fail
  refine (pnums_any s (w.heap.size + 1) ⟨0, false⟩ wa hs1 (Nat.zero_le _) (by omega) ((unhide HT).below (unhide HBE0)) (unhide HRD0)).mono ?_
  rintro e w1 ⟨v1, rfl, hown1, hlen1, hr1, hg1⟩
  have HOWN1 : Hid (w1.ownsRow (w.heap.size + 2) 3 1 v1 (Hx.psc1 s).1.length (ints (nats (Hx.psc1 s).1))) := by
    show World.ownsRow _ _ _ _ _ _ _
    rw [hsz2] at hown1; exact hown1
  have HL1 : Hid ((Hx.psc1 s).1.length ≤ s.size + 1) := hlen1
  have HR1 : Hid (Rd 139 s (w.heap.size + 1) (Hx.psc1 s).2 w1) := hr1
  have HB1 := hide (blk_kept (unhide HB0) hg1 (by simp))
  have HBE1 := hide ((unhide HBE0).grown hg1 (unhide HBE0).size (by simp))
  have HSZ1 := hide hg1.size
  clear hown1 hlen1 hr1 hg1 HB0 HRD0 HBE0
  go_wp2_with fail
  refine (take_any s (w.heap.size + 1) (Hx.psc1 s).2 _ 47 _ hs1 P1.out rfl (by omega) (unhide HR1)).mono ?_
  rintro e w2 ⟨rfl, hr2, hg2⟩
  have HR2 := hide hr2
  have HB2 := hide (blk_kept (unhide HB1) hg2 (by simp))
  have HBE2 := hide ((unhide HBE1).grown hg2 (unhide HBE1).size (by simp))
  have HOWN2 := hide ((unhide HOWN1).kept hg2 (own_ne (unhide HOWN1) (by omega)))
  have HSZ2 : Hid (w.heap.size + 2 ≤ w2.heap.size) := by have := unhide HSZ1; have := hg2.size; show _ ≤ _; omega
  clear hr2 hg2 HR1 HB1 HBE1 HOWN1 HSZ1
  go_wp2_with fail
  refine (pnums_any s (w.heap.size + 1) (Hx.takeF s 47 (Hx.psc1 s).2) w2 hs1 P2.out (by omega) ((unhide HT).below (unhide HBE2)) (unhide HR2)).mono ?_
  rintro e w3 ⟨v2, rfl, hown3, hlen3, hr3, hg3⟩
  have HOWN3 : Hid (w3.ownsRow (w.heap.size + 2) 3 1 v2 (Hx.psc2 s).1.length (ints (nats (Hx.psc2 s).1))) := own_mono hown3 (unhide HSZ2)
  have HL3 : Hid ((Hx.psc2 s).1.length ≤ s.size + 1) := hlen3
  have HR3 : Hid (Rd 139 s (w.heap.size + 1) (Hx.psc2 s).2 w3) := hr3
  have HB3 := hide (blk_kept (unhide HB2) hg3 (by simp))
  have HBE3 := hide ((unhide HBE2).grown hg3 (unhide HBE2).size (by simp))
  have HOWN1 := hide ((unhide HOWN2).kept hg3 (own_ne (unhide HOWN2) (by omega)))
  have d2 := (unhide HR3).c2
  have e0 : w3.cell? ⟨w.heap.size, 0, none⟩ = some (.slice none 0 0) := blk_cell (unhide HB3) 0
  have e1 : w3.cell? ⟨w.heap.size, 1, none⟩ = some (.slice none 0 0) := blk_cell (unhide HB3) 1
  have ef := blk_free (unhide HB3)
  obtain ⟨a1, c1, rfl⟩ := own_form (unhide HOWN1)
  obtain ⟨a2, c2, rfl⟩ := own_form (unhide HOWN3)
  have hle := Nat.le_refl w.heap.size
  clear hown3 hlen3 hr3 hg3 HB2 HBE2 HOWN2 HR2 HB3 P1 P2
  cases hbad : (Hx.psc2 s).2.bad
  · rw [hbad] at d2
    by_cases hend : s.size ≤ (Hx.psc2 s).2.pos
    · have HOK : Hid (Hx.scrOk s = true) := by
        show _ = _
        rw [← (unhide HIS).1, hbad]
        have : (Hx.psc2 s).2.pos = s.size := by have := P3.out; omega
        simp [this]
      have HE := hide hend
      clear hbad hend
      go_wp2_with (go_at_call 64; refine (ended_yes s _ (Hx.psc2 s).2 _ hs1 P3.out HE.out (unhide HR3)).mono ?_; rintro e w7 ⟨rfl, n7, rfl⟩)
      refine bodyPost_ret (v := .tuple #[.agg #[.slice a1 (Hx.psc1 s).1.length c1, .slice a2 (Hx.psc2 s).1.length c2], .bool true]) (by simp [results, Tryz.results32, go_sem, e0, e1]) rfl ?_
      obtain ⟨q1, q2⟩ := (unhide HIS).2 (unhide HOK)
      rw [← q1, ← q2]
      refine ⟨((below_drewN (unhide HBE3) n7).setCell hle _).setCell hle _, Or.inr ⟨unhide HOK, by have := unhide HL1; omega, by have := unhide HL3; omega, _, _, rfl, ?_, ?_⟩⟩
      · exact own_mono (own_set_low (own_set_low ((unhide HOWN1).kept (grown_drewN _ n7 (some 0)) (own_ne (unhide HOWN1) (by omega))) (by omega) _ _) (by omega) _ _) (by omega)
      · exact own_mono (own_set_low (own_set_low ((unhide HOWN3).kept (grown_drewN _ n7 (some 0)) (own_ne (unhide HOWN3) (by omega))) (by omega) _ _) (by omega) _ _) (by omega)
    · have HOK : Hid (Hx.scrOk s = false) := by
        show _ = _
        rw [← (unhide HIS).1, hbad]
        have : ((Hx.psc2 s).2.pos == s.size) = false := by rw [beq_eq_false_iff_ne]; omega
        simp [this]
      have HE : Hid ((Hx.psc2 s).2.pos < s.size) := show _ < _ by omega
      clear hbad hend
      go_wp2_with (go_at_call 64; refine (ended_no s _ (Hx.psc2 s).2 _ hs1 P3.out HE.out (unhide HR3)).mono ?_; rintro e w7 ⟨rfl, n7, rfl⟩)
      refine bodyPost_ret (v := .tuple #[.agg #[.slice none 0 0, .slice none 0 0], .bool false]) (by simp [results, Tryz.results32, go_sem, e0, e1]) rfl ?_
      exact ⟨((below_drewN (unhide HBE3) n7).setCell hle _).setCell hle _, Or.inl ⟨unhide HOK, rfl⟩⟩
  · rw [hbad] at d2
    have HOK : Hid (Hx.scrOk s = false) := by
      show _ = _
      rw [← (unhide HIS).1, hbad]; rfl
    clear hbad
    go_wp2_with fail
    refine bodyPost_ret (v := .tuple #[.agg #[.slice none 0 0, .slice none 0 0], .bool false]) (by simp [results, Tryz.results32, go_sem, e0, e1]) rfl ?_
    exact ⟨((unhide HBE3).setCell hle _).setCell hle _, Or.inl ⟨unhide HOK, rfl⟩⟩

end Go.Proofs.YtppcnlkhdgmaiaaGreatDoor
