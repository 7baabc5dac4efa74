/- How the document reads a list of numbers: numbers. -/
import Derived.Test.YtppcnlkhdgmaiaaGreatDoorRgI
namespace Go.Proofs.YtppcnlkhdgmaiaaGreatDoor
open Go.RowKit


theorem grown_over {w a c : World} {row r : Option Nat} (h : w.grownBy a row) (g : a.grownBy c r) (hr : ∀ k, r = some k → w.heap.size ≤ k) : w.grownBy c row :=
  ⟨g.os.trans h.os, g.tape.trans h.tape, g.output.trans h.output, Nat.le_trans h.size g.size, fun i hi hne => (g.block i (Nat.lt_of_lt_of_le hi h.size) (fun e => by have := hr i e.symm; omega)).trans (h.block i hi hne)⟩

/-- What numbers answers, once it is known that there are some. -/
def NumsSaid (s : ByteArray) (b : Nat) (st : Hx.St) (ci : Int) (w : World) : Prop :=
  Calls Tryz.prog 67 #[.pointer (some ⟨b, 0, none⟩), .int .u8 ci] w fun e w' => ∃ v, e = .returned v ∧ Rd 108 s b (Hx.numsF s st []).2 w' ∧ w'.ownsRow w.heap.size 3 1 v (Hx.numsF s st []).1.length (ints (nats (Hx.numsF s st []).1)) ∧ (Hx.numsF s st []).1.length ≤ s.size + 1 ∧ w.grownBy w' (some b)

set_option maxRecDepth 100000 in
set_option maxHeartbeats 4000000 in
theorem nums_zero (s : ByteArray) (b : Nat) (st : Hx.St) (w : World) (hs : s.size ≤ 1000000) (hp : st.pos < s.size) (hr : Rd 108 s b st w) : NumsSaid s b st 0 w := by
  unfold NumsSaid
  have c0 := hr.c0
  have c1 := hr.c1
  have c2 := hr.c2
  have hb := hr.lt
  have HR := hide hr
  clear hr
  have hne : ((st.pos : Int) == (s.size : Int)) = false := by simp; omega
  obtain ⟨i0, hi, hz0, hz1, hz2⟩ := info_parts Tryz.info3
  have HI := hide hi
  have HZ0 := hide hz0
  have HZ1 := hide hz1
  have HZ2 := hide hz2
  clear hi hz0 hz1 hz2
  go_enter Tryz.func67, Tryz.ntmps67
  go_wp2_with fail
  go_quiet (fail)
  go_wp2_with fail
  clear c0 c1 c2
  have hpl : st.pos ≤ s.size := by omega
  go_loopg [5, 6] (s.size + 1 - st.pos) (fun gk v on wr => ∃ (st' : Hx.St) (acc : List Nat) (o : Bool), gk = (if o then s.size + 1 - st'.pos else 0) ∧ on = .bool o ∧ st'.pos ≤ s.size ∧ acc.length ≤ s.size + 1 ∧ (o = true → acc.length ≤ st'.pos) ∧ (if o then Hx.numsF s st' acc else (acc, st')) = Hx.numsF s st [] ∧ Rd 108 s b st' wr ∧ wr.ownsRow w.heap.size 3 1 v acc.length (ints (nats acc)) ∧ w.grownBy wr (some b))
  case atStart => exact ⟨st, [], true, rfl, rfl, hpl, by simp, by simp, rfl, Rd.drewN (unhide HR) _, World.ownsRow_nil _ _ _ _, grown_drewN _ _ _⟩
  case round =>
    clear HR
    obtain ⟨st', acc, o, rfl, rfl, hpos, hacc, hacc2, hfin, hrd, hown, hgr⟩ := hrel
    obtain ⟨ao, cap, rfl⟩ := own_form hown
    have d2 := hrd.c2
    have HRD := hide hrd
    have HOWN := hide hown
    have HGR := hide hgr
    have HFIN := hide hfin
    clear hrd hown hgr hfin
    cases o
    · have HF : Hid ((acc, st') = Hx.numsF s st []) := unhide HFIN
      clear HFIN
      go_wp2_with fail
      go_returns
      exact ⟨_, rfl, by rw [← unhide HF]; exact unhide HRD, by rw [← unhide HF]; exact unhide HOWN, by rw [← unhide HF]; exact hacc, unhide HGR⟩
    · have HF : Hid (Hx.numsF s st' acc = Hx.numsF s st []) := unhide HFIN
      clear HFIN
      have hacc3 := hacc2 rfl
      clear hacc2
      obtain ⟨pos, bad⟩ := st'
      simp only at hpos hacc3 d2
      cases bad
      · go_wp2_with fail
        refine (refnum_any s b ⟨pos, false⟩ _ 3 _ hs hpos (by omega) (by omega) rfl (unhide HRD)).mono ?_
        rintro e w5 ⟨rfl, hr5, hg5⟩
        have HR5 := hide hr5
        have HO5 := hide ((unhide HOWN).kept hg5 (own_ne (unhide HOWN) hb))
        have HG5 := hide (grown_trans (unhide HGR) hg5)
        have hsz5 := (unhide HG5).size
        clear hr5 hg5 HRD HOWN HGR
        have hP := Hx.numF_le (s := s) (m := 3) (st := ⟨pos, false⟩) hpos
        have hG := Hx.numF_ge s 3 ⟨pos, false⟩
        simp only at hG
        have HNX : Hid (Hx.numsF s ⟨pos, false⟩ acc = if (Hx.nextF s 44 (Hx.numF s 3 ⟨pos, false⟩).2).1 = true then Hx.numsF s (Hx.nextF s 44 (Hx.numF s 3 ⟨pos, false⟩).2).2 (acc ++ [(Hx.numF s 3 ⟨pos, false⟩).1]) else (acc ++ [(Hx.numF s 3 ⟨pos, false⟩).1], (Hx.nextF s 44 (Hx.numF s 3 ⟨pos, false⟩).2).2)) := by
          show _ = _
          rw [Hx.numsF, if_neg (by simp)]
          split <;> simp_all
        obtain ⟨r, hr⟩ : ∃ r, r = Hx.numF s 3 ⟨pos, false⟩ := ⟨_, rfl⟩
        rw [← hr] at HR5 hP hG HNX ⊢
        clear hr
        obtain ⟨n, t5⟩ := r
        simp only at HR5 hP hG HNX ⊢
        have hal : acc.length < 10000000 := by omega
        go_wp2_with (at_builtin; refine wpList_append_own _ rfl _ _ 64 rfl w.heap.size 3 i0 (.int .i64 0) 1 8 Tryz.underlying64 (unhide HI) (unhide HZ0) (unhide HZ1) (unhide HZ2) rfl (by decide) _ _ _ rfl ((unhide HO5).alloc _) ⟨w5.heap.size, 0, none⟩ 1 1 [.int .i64 (n : Int)] rfl rfl (one_news w5 (.int .i64 (n : Int)) 3) (by simp [Value.oneCell']) (by unfold maxLen; omega) (by omega) (by simp; omega) ?_; intro v' w6 hown' hgrow' _; have HO6 := hide hown'; have HGG6 := hide hgrow'; clear hown' hgrow')
        have HO6' : Hid (w6.ownsRow w.heap.size 3 1 v' (acc ++ [n]).length (ints (nats (acc ++ [n])))) := by
          show World.ownsRow _ _ _ _ _ _ _
          have e1 : ints (nats (acc ++ [n])) = ints (nats acc) ++ [.int .i64 (n : Int)] := by simp [ints, nats]
          rw [e1, List.length_append]; exact unhide HO6
        have HR6 : Hid (Rd 108 s b t5 w6) := ((unhide HR5).alloc _).kept (unhide HGG6) (fun e => by have := ((unhide HO5).lt b e.symm).1; omega)
        have HG6 : Hid (w.grownBy w6 (some b)) := grown_over (grown_trans (unhide HG5) (grown_alloc _ _ _)) (unhide HGG6) (fun k e => ((unhide HO5).lt k e).1)
        clear HO6 HGG6 HR5 HG5 HO5
        cases hq : (Hx.nextF s 44 t5).1
        · have hn : t5.bad = true ∨ Hx.byteAt s t5.pos ≠ 44 := by
            unfold Hx.nextF at hq
            split at hq
            · cases hq
            · rename_i g
              cases hb5 : t5.bad
              · exact Or.inr (fun e => g ⟨hb5, e⟩)
              · exact Or.inl rfl
          have HF2 : Hid ((acc ++ [n], t5) = Hx.numsF s st []) := by
            show _ = _
            rw [← unhide HF, unhide HNX, hq, if_neg (by simp), Hx.nextF_no (by rintro ⟨g1, g2⟩; rcases hn with g | g <;> simp_all)]
          refine (next_no s b t5 _ 44 _ hs hP rfl (by omega) hn (unhide HR6)).mono ?_
          rintro e w7 ⟨rfl, hr7, hg7⟩
          have HR7 := hide hr7
          have HO7 := hide ((unhide HO6').kept hg7 (own_ne (unhide HO6') hb))
          have HG7 := hide (grown_trans (unhide HG6) hg7)
          clear hr7 hg7 HR6 HO6' HG6 HNX hn hq
          go_wp2_with fail
          go_roundg 0
          case measure => first | omega | (simp; omega)
          case rel => exact ⟨t5, acc ++ [n], false, rfl, rfl, hP, by simp; omega, by simp, unhide HF2, unhide HR7, unhide HO7, unhide HG7⟩
        · obtain ⟨hb5, hby, hlt5, he5⟩ := Hx.nextF_in (by omega) hq
          obtain ⟨pos5, bad5⟩ := t5
          simp only at hb5 hby hlt5 he5 hG hP
          subst hb5
          have HF2 : Hid (Hx.numsF s ⟨pos5 + 1, false⟩ (acc ++ [n]) = Hx.numsF s st []) := by
            show _ = _
            rw [← unhide HF, unhide HNX, if_pos hq, he5]
          refine (next_yes s b pos5 _ 44 _ hs rfl (by omega) hby (unhide HR6)).mono ?_
          rintro e w7 ⟨rfl, hr7, hg7⟩
          have HR7 := hide hr7
          have HO7 := hide ((unhide HO6').kept hg7 (own_ne (unhide HO6') hb))
          have HG7 := hide (grown_trans (unhide HG6) hg7)
          clear hr7 hg7 HR6 HO6' HG6 HNX hq he5 hby
          go_wp2_with fail
          go_roundg (s.size + 1 - (pos5 + 1))
          case measure => first | omega | (simp; omega)
          case rel => exact ⟨⟨pos5 + 1, false⟩, acc ++ [n], true, rfl, rfl, by simp; omega, by simp; omega, by simp; omega, unhide HF2, unhide HR7, unhide HO7, unhide HG7⟩
      · have HF2 : Hid ((acc, ⟨pos, true⟩) = Hx.numsF s st []) := by
          show _ = _
          rw [← unhide HF, Hx.numsF, if_pos rfl]
        go_wp2_with fail
        go_returns
        exact ⟨_, rfl, by rw [← unhide HF2]; exact unhide HRD, by rw [← unhide HF2]; exact unhide HOWN, by rw [← unhide HF2]; exact hacc, unhide HGR⟩

set_option maxRecDepth 100000 in
set_option maxHeartbeats 4000000 in
theorem nums_end (s : ByteArray) (b : Nat) (st : Hx.St) (w : World) (hs : s.size ≤ 1000000) (hp : st.pos = s.size) (hr : Rd 108 s b st w) : NumsSaid s b st 47 w := by
  unfold NumsSaid
  have c0 := hr.c0
  have c1 := hr.c1
  have c2 := hr.c2
  have hb := hr.lt
  have HR := hide hr
  clear hr
  have hne : ¬ (st.pos : Int) < (s.size : Int) := by omega
  have hne2 : ¬ st.pos < s.size := by omega
  obtain ⟨i0, hi, hz0, hz1, hz2⟩ := info_parts Tryz.info3
  have HI := hide hi
  have HZ0 := hide hz0
  have HZ1 := hide hz1
  have HZ2 := hide hz2
  clear hi hz0 hz1 hz2
  go_enter Tryz.func67, Tryz.ntmps67
  go_wp2_with fail
  go_quiet (fail)
  go_wp2_with fail
  clear c0 c1 c2
  have hpl : st.pos ≤ s.size := by omega
  go_loopg [5, 6] (s.size + 1 - st.pos) (fun gk v on wr => ∃ (st' : Hx.St) (acc : List Nat) (o : Bool), gk = (if o then s.size + 1 - st'.pos else 0) ∧ on = .bool o ∧ st'.pos ≤ s.size ∧ acc.length ≤ s.size + 1 ∧ (o = true → acc.length ≤ st'.pos) ∧ (if o then Hx.numsF s st' acc else (acc, st')) = Hx.numsF s st [] ∧ Rd 108 s b st' wr ∧ wr.ownsRow w.heap.size 3 1 v acc.length (ints (nats acc)) ∧ w.grownBy wr (some b))
  case atStart => exact ⟨st, [], true, rfl, rfl, hpl, by simp, by simp, rfl, Rd.drewN (unhide HR) _, World.ownsRow_nil _ _ _ _, grown_drewN _ _ _⟩
  case round =>
    clear HR
    obtain ⟨st', acc, o, rfl, rfl, hpos, hacc, hacc2, hfin, hrd, hown, hgr⟩ := hrel
    obtain ⟨ao, cap, rfl⟩ := own_form hown
    have d2 := hrd.c2
    have HRD := hide hrd
    have HOWN := hide hown
    have HGR := hide hgr
    have HFIN := hide hfin
    clear hrd hown hgr hfin
    cases o
    · have HF : Hid ((acc, st') = Hx.numsF s st []) := unhide HFIN
      clear HFIN
      go_wp2_with fail
      go_returns
      exact ⟨_, rfl, by rw [← unhide HF]; exact unhide HRD, by rw [← unhide HF]; exact unhide HOWN, by rw [← unhide HF]; exact hacc, unhide HGR⟩
    · have HF : Hid (Hx.numsF s st' acc = Hx.numsF s st []) := unhide HFIN
      clear HFIN
      have hacc3 := hacc2 rfl
      clear hacc2
      obtain ⟨pos, bad⟩ := st'
      simp only at hpos hacc3 d2
      cases bad
      · go_wp2_with fail
        refine (refnum_any s b ⟨pos, false⟩ _ 3 _ hs hpos (by omega) (by omega) rfl (unhide HRD)).mono ?_
        rintro e w5 ⟨rfl, hr5, hg5⟩
        have HR5 := hide hr5
        have HO5 := hide ((unhide HOWN).kept hg5 (own_ne (unhide HOWN) hb))
        have HG5 := hide (grown_trans (unhide HGR) hg5)
        have hsz5 := (unhide HG5).size
        clear hr5 hg5 HRD HOWN HGR
        have hP := Hx.numF_le (s := s) (m := 3) (st := ⟨pos, false⟩) hpos
        have hG := Hx.numF_ge s 3 ⟨pos, false⟩
        simp only at hG
        have HNX : Hid (Hx.numsF s ⟨pos, false⟩ acc = if (Hx.nextF s 44 (Hx.numF s 3 ⟨pos, false⟩).2).1 = true then Hx.numsF s (Hx.nextF s 44 (Hx.numF s 3 ⟨pos, false⟩).2).2 (acc ++ [(Hx.numF s 3 ⟨pos, false⟩).1]) else (acc ++ [(Hx.numF s 3 ⟨pos, false⟩).1], (Hx.nextF s 44 (Hx.numF s 3 ⟨pos, false⟩).2).2)) := by
          show _ = _
          rw [Hx.numsF, if_neg (by simp)]
          split <;> simp_all
        obtain ⟨r, hr⟩ : ∃ r, r = Hx.numF s 3 ⟨pos, false⟩ := ⟨_, rfl⟩
        rw [← hr] at HR5 hP hG HNX ⊢
        clear hr
        obtain ⟨n, t5⟩ := r
        simp only at HR5 hP hG HNX ⊢
        have hal : acc.length < 10000000 := by omega
        go_wp2_with (at_builtin; refine wpList_append_own _ rfl _ _ 64 rfl w.heap.size 3 i0 (.int .i64 0) 1 8 Tryz.underlying64 (unhide HI) (unhide HZ0) (unhide HZ1) (unhide HZ2) rfl (by decide) _ _ _ rfl ((unhide HO5).alloc _) ⟨w5.heap.size, 0, none⟩ 1 1 [.int .i64 (n : Int)] rfl rfl (one_news w5 (.int .i64 (n : Int)) 3) (by simp [Value.oneCell']) (by unfold maxLen; omega) (by omega) (by simp; omega) ?_; intro v' w6 hown' hgrow' _; have HO6 := hide hown'; have HGG6 := hide hgrow'; clear hown' hgrow')
        have HO6' : Hid (w6.ownsRow w.heap.size 3 1 v' (acc ++ [n]).length (ints (nats (acc ++ [n])))) := by
          show World.ownsRow _ _ _ _ _ _ _
          have e1 : ints (nats (acc ++ [n])) = ints (nats acc) ++ [.int .i64 (n : Int)] := by simp [ints, nats]
          rw [e1, List.length_append]; exact unhide HO6
        have HR6 : Hid (Rd 108 s b t5 w6) := ((unhide HR5).alloc _).kept (unhide HGG6) (fun e => by have := ((unhide HO5).lt b e.symm).1; omega)
        have HG6 : Hid (w.grownBy w6 (some b)) := grown_over (grown_trans (unhide HG5) (grown_alloc _ _ _)) (unhide HGG6) (fun k e => ((unhide HO5).lt k e).1)
        clear HO6 HGG6 HR5 HG5 HO5
        cases hq : (Hx.nextF s 44 t5).1
        · have hn : t5.bad = true ∨ Hx.byteAt s t5.pos ≠ 44 := by
            unfold Hx.nextF at hq
            split at hq
            · cases hq
            · rename_i g
              cases hb5 : t5.bad
              · exact Or.inr (fun e => g ⟨hb5, e⟩)
              · exact Or.inl rfl
          have HF2 : Hid ((acc ++ [n], t5) = Hx.numsF s st []) := by
            show _ = _
            rw [← unhide HF, unhide HNX, hq, if_neg (by simp), Hx.nextF_no (by rintro ⟨g1, g2⟩; rcases hn with g | g <;> simp_all)]
          refine (next_no s b t5 _ 44 _ hs hP rfl (by omega) hn (unhide HR6)).mono ?_
          rintro e w7 ⟨rfl, hr7, hg7⟩
          have HR7 := hide hr7
          have HO7 := hide ((unhide HO6').kept hg7 (own_ne (unhide HO6') hb))
          have HG7 := hide (grown_trans (unhide HG6) hg7)
          clear hr7 hg7 HR6 HO6' HG6 HNX hn hq
          go_wp2_with fail
          go_roundg 0
          case measure => first | omega | (simp; omega)
          case rel => exact ⟨t5, acc ++ [n], false, rfl, rfl, hP, by simp; omega, by simp, unhide HF2, unhide HR7, unhide HO7, unhide HG7⟩
        · obtain ⟨hb5, hby, hlt5, he5⟩ := Hx.nextF_in (by omega) hq
          obtain ⟨pos5, bad5⟩ := t5
          simp only at hb5 hby hlt5 he5 hG hP
          subst hb5
          have HF2 : Hid (Hx.numsF s ⟨pos5 + 1, false⟩ (acc ++ [n]) = Hx.numsF s st []) := by
            show _ = _
            rw [← unhide HF, unhide HNX, if_pos hq, he5]
          refine (next_yes s b pos5 _ 44 _ hs rfl (by omega) hby (unhide HR6)).mono ?_
          rintro e w7 ⟨rfl, hr7, hg7⟩
          have HR7 := hide hr7
          have HO7 := hide ((unhide HO6').kept hg7 (own_ne (unhide HO6') hb))
          have HG7 := hide (grown_trans (unhide HG6) hg7)
          clear hr7 hg7 HR6 HO6' HG6 HNX hq he5 hby
          go_wp2_with fail
          go_roundg (s.size + 1 - (pos5 + 1))
          case measure => first | omega | (simp; omega)
          case rel => exact ⟨⟨pos5 + 1, false⟩, acc ++ [n], true, rfl, rfl, by simp; omega, by simp; omega, by simp; omega, unhide HF2, unhide HR7, unhide HO7, unhide HG7⟩
      · have HF2 : Hid ((acc, ⟨pos, true⟩) = Hx.numsF s st []) := by
          show _ = _
          rw [← unhide HF, Hx.numsF, if_pos rfl]
        go_wp2_with fail
        go_returns
        exact ⟨_, rfl, by rw [← unhide HF2]; exact unhide HRD, by rw [← unhide HF2]; exact unhide HOWN, by rw [← unhide HF2]; exact hacc, unhide HGR⟩

set_option maxRecDepth 100000 in
set_option maxHeartbeats 4000000 in
theorem nums_byte (s : ByteArray) (b : Nat) (st : Hx.St) (w : World) (hs : s.size ≤ 1000000) (hp : st.pos < s.size) (hby : ((s[st.pos]'hp).toNat : Int) ≠ 47) (hr : Rd 108 s b st w) : NumsSaid s b st 47 w := by
  unfold NumsSaid
  have c0 := hr.c0
  have c1 := hr.c1
  have c2 := hr.c2
  have hb := hr.lt
  have HR := hide hr
  clear hr
  have hne : (((s[st.pos]'hp).toNat : Int) == 47) = false := by simp; omega
  have hlt : (st.pos : Int) < (s.size : Int) := by omega
  obtain ⟨i0, hi, hz0, hz1, hz2⟩ := info_parts Tryz.info3
  have HI := hide hi
  have HZ0 := hide hz0
  have HZ1 := hide hz1
  have HZ2 := hide hz2
  clear hi hz0 hz1 hz2
  go_enter Tryz.func67, Tryz.ntmps67
  go_wp2_with fail
  go_quiet (fail)
  go_wp2_with fail
  clear c0 c1 c2
  have hpl : st.pos ≤ s.size := by omega
  go_loopg [5, 6] (s.size + 1 - st.pos) (fun gk v on wr => ∃ (st' : Hx.St) (acc : List Nat) (o : Bool), gk = (if o then s.size + 1 - st'.pos else 0) ∧ on = .bool o ∧ st'.pos ≤ s.size ∧ acc.length ≤ s.size + 1 ∧ (o = true → acc.length ≤ st'.pos) ∧ (if o then Hx.numsF s st' acc else (acc, st')) = Hx.numsF s st [] ∧ Rd 108 s b st' wr ∧ wr.ownsRow w.heap.size 3 1 v acc.length (ints (nats acc)) ∧ w.grownBy wr (some b))
  case atStart => exact ⟨st, [], true, rfl, rfl, hpl, by simp, by simp, rfl, Rd.drewN (unhide HR) _, World.ownsRow_nil _ _ _ _, grown_drewN _ _ _⟩
  case round =>
    clear HR
    obtain ⟨st', acc, o, rfl, rfl, hpos, hacc, hacc2, hfin, hrd, hown, hgr⟩ := hrel
    obtain ⟨ao, cap, rfl⟩ := own_form hown
    have d2 := hrd.c2
    have HRD := hide hrd
    have HOWN := hide hown
    have HGR := hide hgr
    have HFIN := hide hfin
    clear hrd hown hgr hfin
    cases o
    · have HF : Hid ((acc, st') = Hx.numsF s st []) := unhide HFIN
      clear HFIN
      go_wp2_with fail
      go_returns
      exact ⟨_, rfl, by rw [← unhide HF]; exact unhide HRD, by rw [← unhide HF]; exact unhide HOWN, by rw [← unhide HF]; exact hacc, unhide HGR⟩
    · have HF : Hid (Hx.numsF s st' acc = Hx.numsF s st []) := unhide HFIN
      clear HFIN
      have hacc3 := hacc2 rfl
      clear hacc2
      obtain ⟨pos, bad⟩ := st'
      simp only at hpos hacc3 d2
      cases bad
      · go_wp2_with fail
        refine (refnum_any s b ⟨pos, false⟩ _ 3 _ hs hpos (by omega) (by omega) rfl (unhide HRD)).mono ?_
        rintro e w5 ⟨rfl, hr5, hg5⟩
        have HR5 := hide hr5
        have HO5 := hide ((unhide HOWN).kept hg5 (own_ne (unhide HOWN) hb))
        have HG5 := hide (grown_trans (unhide HGR) hg5)
        have hsz5 := (unhide HG5).size
        clear hr5 hg5 HRD HOWN HGR
        have hP := Hx.numF_le (s := s) (m := 3) (st := ⟨pos, false⟩) hpos
        have hG := Hx.numF_ge s 3 ⟨pos, false⟩
        simp only at hG
        have HNX : Hid (Hx.numsF s ⟨pos, false⟩ acc = if (Hx.nextF s 44 (Hx.numF s 3 ⟨pos, false⟩).2).1 = true then Hx.numsF s (Hx.nextF s 44 (Hx.numF s 3 ⟨pos, false⟩).2).2 (acc ++ [(Hx.numF s 3 ⟨pos, false⟩).1]) else (acc ++ [(Hx.numF s 3 ⟨pos, false⟩).1], (Hx.nextF s 44 (Hx.numF s 3 ⟨pos, false⟩).2).2)) := by
          show _ = _
          rw [Hx.numsF, if_neg (by simp)]
          split <;> simp_all
        obtain ⟨r, hr⟩ : ∃ r, r = Hx.numF s 3 ⟨pos, false⟩ := ⟨_, rfl⟩
        rw [← hr] at HR5 hP hG HNX ⊢
        clear hr
        obtain ⟨n, t5⟩ := r
        simp only at HR5 hP hG HNX ⊢
        have hal : acc.length < 10000000 := by omega
        go_wp2_with (at_builtin; refine wpList_append_own _ rfl _ _ 64 rfl w.heap.size 3 i0 (.int .i64 0) 1 8 Tryz.underlying64 (unhide HI) (unhide HZ0) (unhide HZ1) (unhide HZ2) rfl (by decide) _ _ _ rfl ((unhide HO5).alloc _) ⟨w5.heap.size, 0, none⟩ 1 1 [.int .i64 (n : Int)] rfl rfl (one_news w5 (.int .i64 (n : Int)) 3) (by simp [Value.oneCell']) (by unfold maxLen; omega) (by omega) (by simp; omega) ?_; intro v' w6 hown' hgrow' _; have HO6 := hide hown'; have HGG6 := hide hgrow'; clear hown' hgrow')
        have HO6' : Hid (w6.ownsRow w.heap.size 3 1 v' (acc ++ [n]).length (ints (nats (acc ++ [n])))) := by
          show World.ownsRow _ _ _ _ _ _ _
          have e1 : ints (nats (acc ++ [n])) = ints (nats acc) ++ [.int .i64 (n : Int)] := by simp [ints, nats]
          rw [e1, List.length_append]; exact unhide HO6
        have HR6 : Hid (Rd 108 s b t5 w6) := ((unhide HR5).alloc _).kept (unhide HGG6) (fun e => by have := ((unhide HO5).lt b e.symm).1; omega)
        have HG6 : Hid (w.grownBy w6 (some b)) := grown_over (grown_trans (unhide HG5) (grown_alloc _ _ _)) (unhide HGG6) (fun k e => ((unhide HO5).lt k e).1)
        clear HO6 HGG6 HR5 HG5 HO5
        cases hq : (Hx.nextF s 44 t5).1
        · have hn : t5.bad = true ∨ Hx.byteAt s t5.pos ≠ 44 := by
            unfold Hx.nextF at hq
            split at hq
            · cases hq
            · rename_i g
              cases hb5 : t5.bad
              · exact Or.inr (fun e => g ⟨hb5, e⟩)
              · exact Or.inl rfl
          have HF2 : Hid ((acc ++ [n], t5) = Hx.numsF s st []) := by
            show _ = _
            rw [← unhide HF, unhide HNX, hq, if_neg (by simp), Hx.nextF_no (by rintro ⟨g1, g2⟩; rcases hn with g | g <;> simp_all)]
          refine (next_no s b t5 _ 44 _ hs hP rfl (by omega) hn (unhide HR6)).mono ?_
          rintro e w7 ⟨rfl, hr7, hg7⟩
          have HR7 := hide hr7
          have HO7 := hide ((unhide HO6').kept hg7 (own_ne (unhide HO6') hb))
          have HG7 := hide (grown_trans (unhide HG6) hg7)
          clear hr7 hg7 HR6 HO6' HG6 HNX hn hq
          go_wp2_with fail
          go_roundg 0
          case measure => first | omega | (simp; omega)
          case rel => exact ⟨t5, acc ++ [n], false, rfl, rfl, hP, by simp; omega, by simp, unhide HF2, unhide HR7, unhide HO7, unhide HG7⟩
        · obtain ⟨hb5, hby, hlt5, he5⟩ := Hx.nextF_in (by omega) hq
          obtain ⟨pos5, bad5⟩ := t5
          simp only at hb5 hby hlt5 he5 hG hP
          subst hb5
          have HF2 : Hid (Hx.numsF s ⟨pos5 + 1, false⟩ (acc ++ [n]) = Hx.numsF s st []) := by
            show _ = _
            rw [← unhide HF, unhide HNX, if_pos hq, he5]
          refine (next_yes s b pos5 _ 44 _ hs rfl (by omega) hby (unhide HR6)).mono ?_
          rintro e w7 ⟨rfl, hr7, hg7⟩
          have HR7 := hide hr7
          have HO7 := hide ((unhide HO6').kept hg7 (own_ne (unhide HO6') hb))
          have HG7 := hide (grown_trans (unhide HG6) hg7)
          clear hr7 hg7 HR6 HO6' HG6 HNX hq he5 hby
          go_wp2_with fail
          go_roundg (s.size + 1 - (pos5 + 1))
          case measure => first | omega | (simp; omega)
          case rel => exact ⟨⟨pos5 + 1, false⟩, acc ++ [n], true, rfl, rfl, by simp; omega, by simp; omega, by simp; omega, unhide HF2, unhide HR7, unhide HO7, unhide HG7⟩
      · have HF2 : Hid ((acc, ⟨pos, true⟩) = Hx.numsF s st []) := by
          show _ = _
          rw [← unhide HF, Hx.numsF, if_pos rfl]
        go_wp2_with fail
        go_returns
        exact ⟨_, rfl, by rw [← unhide HF2]; exact unhide HRD, by rw [← unhide HF2]; exact unhide HOWN, by rw [← unhide HF2]; exact hacc, unhide HGR⟩

set_option maxRecDepth 100000 in
set_option maxHeartbeats 4000000 in
theorem none_zero (s : ByteArray) (b : Nat) (st : Hx.St) (w : World) (hp : st.pos = s.size) (hr : Rd 108 s b st w) :
    Calls Tryz.prog 67 #[.pointer (some ⟨b, 0, none⟩), .int .u8 0] w fun e w' => e = .returned (.slice none 0 0) ∧ Rd 108 s b st w' ∧ w.grownBy w' (some b) := by
  have c0 := hr.c0
  have c1 := hr.c1
  have HR := hide hr
  clear hr
  have hne : ((st.pos : Int) == (s.size : Int)) = true := by simp; omega
  go_enter Tryz.func67, Tryz.ntmps67
  go_wp2_with fail
  go_quiet (fail)
  go_wp2_with fail
  go_returns
  exact ⟨rfl, Rd.drewN (unhide HR) _, grown_drewN _ _ _⟩
set_option maxRecDepth 100000 in
set_option maxHeartbeats 4000000 in
theorem none_byte (s : ByteArray) (b : Nat) (st : Hx.St) (w : World) (hp : st.pos < s.size) (hby : ((s[st.pos]'hp).toNat : Int) = 47) (hr : Rd 108 s b st w) :
    Calls Tryz.prog 67 #[.pointer (some ⟨b, 0, none⟩), .int .u8 47] w fun e w' => e = .returned (.slice none 0 0) ∧ Rd 108 s b st w' ∧ w.grownBy w' (some b) := by
  have c0 := hr.c0
  have c1 := hr.c1
  have HR := hide hr
  clear hr
  have hne : (((s[st.pos]'hp).toNat : Int) == 47) = true := by simp; omega
  have hlt : (st.pos : Int) < (s.size : Int) := by omega
  clear hby
  go_enter Tryz.func67, Tryz.ntmps67
  go_wp2_with fail
  go_quiet (fail)
  go_wp2_with fail
  go_returns
  exact ⟨rfl, Rd.drewN (unhide HR) _, grown_drewN _ _ _⟩
end Go.Proofs.YtppcnlkhdgmaiaaGreatDoor
