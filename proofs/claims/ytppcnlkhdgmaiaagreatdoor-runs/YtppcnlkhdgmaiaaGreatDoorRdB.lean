/- What the reader's calls for numbers do: digits, number, takeBounds, plateLetter, restAndStep. -/
import Derived.Test.YtppcnlkhdgmaiaaGreatDoorRdA
import Derived.Handy
namespace Go.Proofs.YtppcnlkhdgmaiaaGreatDoor
open Go.RowKit

theorem kind_val (s : ByteArray) (b : Nat) (st : Hx.St) (kv : Int) (w : World) (hs : s.size ≤ 1000) (hp : st.pos ≤ s.size) (hk : (Hx.kindOf (Hx.byteAt s st.pos) : Int) = kv) (ht : Tab w) (hr : Rd 139 s b st w) :
    Calls Tryz.prog 83 #[.pointer (some ⟨b, 0, none⟩)] w fun e w' => e = .returned (.int .u8 kv) ∧ ∃ n, w' = w.drewN n :=
  (kind_any s b st w hs hp ht hr).mono fun _ _ ⟨he, hw⟩ => ⟨by rw [he, hk], hw⟩

theorem Rd.lt {T s b st w} (h : Rd T s b st w) : b < w.heap.size := by
  have h : w.heap[b]? = _ := h
  by_cases g : b < w.heap.size
  · exact g
  · rw [Array.getElem?_eq_none (by omega)] at h; cases h
theorem Tab.drewN {w : World} (h : Tab w) (n : Nat) : Tab (w.drewN n) := h
theorem Tab.grown {w w' : World} {b : Nat} (h : Tab w) (hb : 1 < b) (hg : w.grownBy w' (some b)) : Tab w' := fun i hi => hg.cell (h i hi) (by simp; omega)

set_option maxHeartbeats 1000000 in
theorem digits_any (s : ByteArray) (b : Nat) (p0 : Nat) (mi : Int) (most : Nat) (w : World) (hs : s.size ≤ 1000) (hp : p0 ≤ s.size) (hm : most ≤ 5) (hmi : mi = (most : Int)) (hb : 1 < b) (ht : Tab w) (hr : Rd 139 s b ⟨p0, false⟩ w) :
    Calls Tryz.prog 87 #[.pointer (some ⟨b, 0, none⟩), .int .i64 mi] w fun e w' => e = .returned (.int .i64 ((Hx.digF s most p0 0).1 : Int)) ∧ Rd 139 s b ⟨(Hx.digF s most p0 0).2, false⟩ w' ∧ w.grownBy w' (some b) := by
  subst hmi
  have HT : Hid (Tab w) := ht
  have HR : Hid (Rd 139 s b ⟨p0, false⟩ w) := hr
  clear ht hr
  go_enter Tryz.func87, Tryz.ntmps87
  go_wp2_with fail
  go_loopw [5, 8] (fun v i wr => ∃ k m pos : Nat, k ≤ most ∧ i = .int .i64 (k : Int) ∧ v = .int .i64 (m : Int) ∧ m < 10 ^ k ∧ pos ≤ s.size ∧ Rd 139 s b ⟨pos, false⟩ wr ∧ w.grownBy wr (some b) ∧ Hx.digF s (most - k) pos m = Hx.digF s most p0 0) (fun _ i _ => most - (intOf i).toNat)
  case atStart => exact ⟨0, 0, p0, Nat.zero_le _, rfl, rfl, by decide, hp, HR.out, World.grownBy.refl _ _, rfl⟩
  case round =>
    obtain ⟨k, m, pos, hk, rfl, rfl, hmk, hpos, hrd, hgr, hd⟩ := hrel
    have HRD : Hid (Rd 139 s b ⟨pos, false⟩ wr) := hrd
    have HG : Hid (w.grownBy wr (some b)) := hgr
    have HD : Hid (Hx.digF s (most - k) pos m = Hx.digF s most p0 0) := hd
    have HTR : Hid (Tab wr) := HT.out.grown hb hgr
    have HM : Hid (m < 10 ^ k) := hmk
    have hm4 : m < 100000 := Nat.lt_of_lt_of_le hmk (Nat.le_trans (Nat.pow_le_pow_right (by omega) (show k ≤ 5 by omega)) (by decide))
    clear hd hmk hrd hgr
    by_cases hlt : k < most
    · by_cases hdg : 48 ≤ Hx.byteAt s pos ∧ Hx.byteAt s pos ≤ 57
      · have hin : pos < s.size := Hx.byteAt_in (by omega)
        have hb1 : Hx.byteAt s pos = (s[pos]'hin).toNat := Hx.byteAt_lt hin
        have h48 : (48 : Int) ≤ ((s[pos]'hin).toNat : Int) := by omega
        have h57 : ((s[pos]'hin).toNat : Int) ≤ 57 := by omega
        have HB1 : Hid (Hx.byteAt s pos = (s[pos]'hin).toNat) := hb1
        have HDG : Hid (48 ≤ Hx.byteAt s pos ∧ Hx.byteAt s pos ≤ 57) := hdg
        obtain ⟨kv, hkv, hkv2⟩ : ∃ kv : Int, (Hx.kindOf (Hx.byteAt s pos) : Int) = kv ∧ (kv = 1 ∨ kv = 2) := by
          refine ⟨_, rfl, ?_⟩
          by_cases e : Hx.byteAt s pos = 48
          · exact Or.inl (by rw [(Hx.kindOf_one _).2 e]; rfl)
          · exact Or.inr (by rw [(Hx.kindOf_two _).2 (by omega)]; rfl)
        have HKV : Hid ((Hx.kindOf (Hx.byteAt s pos) : Int) = kv) := hkv
        have c0 := HRD.out.c0
        have c1 := HRD.out.c1
        have f1 := HRD.out.fz 1
        simp only at c1
        clear hb1 hkv hdg
        have hfin : Hid (Hx.digF s (most - (k + 1)) (pos + 1) (m * 10 + (Hx.byteAt s pos - 48)) = Hx.digF s most p0 0) := by
          have e : most - k = (most - (k + 1)) + 1 := by omega
          have := HD.out
          rw [e, Hx.digF_step HDG.out] at this
          exact this
        have hm10 : Hid (m * 10 + (Hx.byteAt s pos - 48) < 10 ^ (k + 1)) := by
          have := HM.out
          have := HDG.out
          show _ < _
          rw [Nat.pow_succ]; omega
        have hval : Hid (((m * 10 + (Hx.byteAt s pos - 48) : Nat) : Int) = (m : Int) * 10 + (((s[pos]'hin).toNat : Int) - 48)) := by
          have := HB1.out
          show _ = _
          omega
        rcases hkv2 with rfl | rfl
        all_goals
          go_wp2_with (go_at_call 83; refine (kind_val s b ⟨pos, false⟩ _ _ hs hpos HKV.out HTR.out HRD.out).mono ?_; rintro e w' ⟨rfl, n1, rfl⟩)
          go_quiet (fail)
          go_wp2_with fail
          go_roundw
          case rel => exact ⟨k + 1, m * 10 + (Hx.byteAt s pos - 48), pos + 1, by omega, by go_num, by rw [hval.out], hm10.out, by omega, Rd.set1 (Rd.drewN HRD.out _) (pos + 1), grown_trans HG.out (grown_trans (grown_drewN _ _ _) (grown_set _ _ _ _)), hfin.out⟩
          case measure => simp [intOf]; omega
      · obtain ⟨kv, hkv, hk1, hk2⟩ : ∃ kv : Int, (Hx.kindOf (Hx.byteAt s pos) : Int) = kv ∧ (kv != 1) = true ∧ (kv != 2) = true := by
          refine ⟨_, rfl, ?_, ?_⟩
          · rw [bne_iff_ne]; intro e; have := (Hx.kindOf_one (Hx.byteAt s pos)).1 (by omega); omega
          · rw [bne_iff_ne]; intro e; have := (Hx.kindOf_two (Hx.byteAt s pos)).1 (by omega); omega
        have HKV : Hid ((Hx.kindOf (Hx.byteAt s pos) : Int) = kv) := hkv
        have HDG : Hid (¬ (48 ≤ Hx.byteAt s pos ∧ Hx.byteAt s pos ≤ 57)) := hdg
        clear hkv hdg
        have hfin : Hid ((m, pos) = Hx.digF s most p0 0) := (Hx.digF_stop HDG.out).symm.trans HD.out
        go_wp2_with (go_at_call 83; refine (kind_val s b ⟨pos, false⟩ _ _ hs hpos HKV.out HTR.out HRD.out).mono ?_; rintro e w' ⟨rfl, n1, rfl⟩)
        go_returns
        exact ⟨ret_int (by rw [← hfin.out]), by rw [← hfin.out]; exact HRD.out, grown_trans HG.out (grown_drewN _ _ _)⟩
    · have hfin : Hid ((m, pos) = Hx.digF s most p0 0) := by
        have := HD.out
        rw [show most - k = 0 by omega] at this
        exact this
      go_wp2_with fail
      go_returns
      exact ⟨ret_int (by rw [← hfin.out]), by rw [← hfin.out]; exact HRD.out, HG.out⟩

set_option maxHeartbeats 1000000 in
theorem number_any (s : ByteArray) (b : Nat) (st : Hx.St) (mi : Int) (most : Nat) (w : World) (hs : s.size ≤ 1000) (hp : st.pos ≤ s.size) (hm : most ≤ 5) (hmi : mi = (most : Int)) (hb : 1 < b) (ht : Tab w) (hr : Rd 139 s b st w) :
    Calls Tryz.prog 68 #[.pointer (some ⟨b, 0, none⟩), .int .i64 mi] w fun e w' => e = .returned (.int .i64 ((Hx.numF s most st).1 : Int)) ∧ Rd 139 s b (Hx.numF s most st).2 w' ∧ w.grownBy w' (some b) := by
  have HT : Hid (Tab w) := ht
  have HR : Hid (Rd 139 s b st w) := hr
  have HMI : Hid (mi = (most : Int)) := hmi
  have c1 := hr.c1
  have c2 := hr.c2
  have f1 := hr.fz 1
  have f2 := hr.fz 2
  clear ht hr hmi
  obtain ⟨pos, bad⟩ := st
  simp only at c1 c2 hp
  cases bad
  · by_cases h1 : Hx.byteAt s pos = 48
    · have hk : Hid ((Hx.kindOf (Hx.byteAt s pos) : Int) = 1) := by show _ = _; rw [(Hx.kindOf_one _).2 h1]; rfl
      have hfin : Hid (Hx.numF s most ⟨pos, false⟩ = (0, ⟨pos + 1, false⟩)) := Hx.numF_zero rfl h1
      clear h1
      go_enter Tryz.func68, Tryz.ntmps68
      go_wp2_with (go_at_call 83; refine (kind_val s b ⟨pos, false⟩ _ _ hs hp hk.out HT.out HR.out).mono ?_; rintro e w' ⟨rfl, n1, rfl⟩)
      go_returns
      rw [hfin.out]
      exact ⟨rfl, Rd.set1 (Rd.drewN HR.out _) (pos + 1), grown_trans (grown_drewN _ _ _) (grown_set _ _ _ _)⟩
    · by_cases h2 : 49 ≤ Hx.byteAt s pos ∧ Hx.byteAt s pos ≤ 57
      · have hk : Hid ((Hx.kindOf (Hx.byteAt s pos) : Int) = 2) := by show _ = _; rw [(Hx.kindOf_two _).2 h2]; rfl
        have hfin : Hid (Hx.numF s most ⟨pos, false⟩ = ((Hx.digF s most pos 0).1, ⟨(Hx.digF s most pos 0).2, false⟩)) := Hx.numF_dig rfl h2
        clear h1 h2
        go_enter Tryz.func68, Tryz.ntmps68
        go_wp2_with (first | (go_at_call 83; refine (kind_val s b ⟨pos, false⟩ _ _ hs hp hk.out HT.out HR.out).mono ?_; rintro e w' ⟨rfl, n1, rfl⟩) | (go_at_call 87; refine (digits_any s b pos _ most _ hs hp hm HMI.out hb (Tab.drewN HT.out _) (Rd.drewN HR.out _)).mono ?_; rintro e w' ⟨rfl, hr2, hg2⟩))
        go_returns
        rw [hfin.out]
        exact ⟨rfl, hr2, grown_trans (grown_drewN _ _ _) hg2⟩
      · obtain ⟨kv, hkv, hk1, hk2⟩ : ∃ kv : Int, (Hx.kindOf (Hx.byteAt s pos) : Int) = kv ∧ (kv == 1) = false ∧ (kv == 2) = false := by
          refine ⟨_, rfl, ?_, ?_⟩
          · rw [beq_eq_false_iff_ne]; intro e; exact h1 ((Hx.kindOf_one (Hx.byteAt s pos)).1 (by omega))
          · rw [beq_eq_false_iff_ne]; intro e; exact h2 ((Hx.kindOf_two (Hx.byteAt s pos)).1 (by omega))
        have HKV : Hid ((Hx.kindOf (Hx.byteAt s pos) : Int) = kv) := hkv
        have hfin : Hid (Hx.numF s most ⟨pos, false⟩ = (0, ⟨pos, true⟩)) := Hx.numF_no rfl (by show ¬ (48 ≤ Hx.byteAt s pos ∧ Hx.byteAt s pos ≤ 57); omega)
        clear h1 h2 hkv
        go_enter Tryz.func68, Tryz.ntmps68
        go_wp2_with (go_at_call 83; refine (kind_val s b ⟨pos, false⟩ _ _ hs hp HKV.out HT.out HR.out).mono ?_; rintro e w' ⟨rfl, n1, rfl⟩)
        go_returns
        rw [hfin.out]
        exact ⟨rfl, Rd.set2 (Rd.drewN HR.out _) true, grown_trans (grown_drewN _ _ _) (grown_set _ _ _ _)⟩
  · have hfin : Hid (Hx.numF s most ⟨pos, true⟩ = (0, ⟨pos, true⟩)) := Hx.numF_bad rfl
    go_enter Tryz.func68, Tryz.ntmps68
    go_wp2_with fail
    go_returns
    rw [hfin.out]
    exact ⟨rfl, HR.out, World.grownBy.refl _ _⟩

theorem Rd.kept {T s b st} {w w' : World} {row : Option Nat} (h : Rd T s b st w) (hg : w.grownBy w' row) (hne : some b ≠ row) : Rd T s b st w' := (hg.block b h.lt hne).trans h

set_option maxHeartbeats 1000000 in
theorem letter_any (s : ByteArray) (b : Nat) (st : Hx.St) (ni : Int) (n : Nat) (w : World) (hs : s.size ≤ 1000) (hp : st.pos ≤ s.size) (hn : n ≤ 120) (hni : ni = (n : Int)) (ht : Tab w) (hr : Rd 139 s b st w) :
    Calls Tryz.prog 88 #[.pointer (some ⟨b, 0, none⟩), .int .i64 ni] w fun e w' => e = .returned (.tuple #[]) ∧ Rd 139 s b (Hx.letterF s n st) w' ∧ w.grownBy w' (some b) := by
  have HT : Hid (Tab w) := ht
  have HR : Hid (Rd 139 s b st w) := hr
  subst hni
  have c2 := hr.c2
  have f2 := hr.fz 2
  clear ht hr
  by_cases h3 : 97 ≤ Hx.byteAt s st.pos ∧ Hx.byteAt s st.pos ≤ 122
  · have H3 : Hid (97 ≤ Hx.byteAt s st.pos ∧ Hx.byteAt s st.pos ≤ 122) := h3
    obtain ⟨kv, hkv, hkv2⟩ : ∃ kv : Int, (Hx.kindOf (Hx.byteAt s st.pos) : Int) = kv ∧ (kv = 3 ∨ kv = 4) := by
      refine ⟨_, rfl, ?_⟩
      by_cases e : Hx.byteAt s st.pos ≤ 100
      · exact Or.inl (by rw [(Hx.kindOf_three _).2 ⟨h3.1, e⟩]; rfl)
      · exact Or.inr (by rw [(Hx.kindOf_four _).2 (by omega)]; rfl)
    have HKV : Hid ((Hx.kindOf (Hx.byteAt s st.pos) : Int) = kv) := hkv
    clear h3 hkv
    have hfin : Hid (Hx.letterF s n st = Hx.takeF s (97 + n) st) := by
      show _ = _
      unfold Hx.letterF
      by_cases h26 : n < 26
      · rw [if_pos h26]
      · rw [if_neg h26, Hx.takeF_no (by have := H3.out; omega)]
    go_enter Tryz.func88, Tryz.ntmps88
    rcases hkv2 with rfl | rfl
    all_goals
      go_wp2_with (first | (go_at_call 83; refine (kind_val s b st _ _ hs hp HKV.out HT.out HR.out).mono ?_; rintro e w' ⟨rfl, n1, rfl⟩) | (go_at_call 63; refine (take_any s b st _ (97 + n) _ hs hp (by omega) (by omega) (Rd.drewN HR.out _)).mono ?_; rintro e w' ⟨rfl, hr2, hg2⟩))
      go_returns
      rw [hfin.out]
      exact ⟨rfl, hr2, grown_trans (grown_drewN _ _ _) hg2⟩
  · obtain ⟨kv, hkv, hk1, hk2⟩ : ∃ kv : Int, (Hx.kindOf (Hx.byteAt s st.pos) : Int) = kv ∧ (kv != 3) = true ∧ (kv != 4) = true := by
      refine ⟨_, rfl, ?_, ?_⟩
      · rw [bne_iff_ne]; intro e; have := (Hx.kindOf_three (Hx.byteAt s st.pos)).1 (by omega); omega
      · rw [bne_iff_ne]; intro e; have := (Hx.kindOf_four (Hx.byteAt s st.pos)).1 (by omega); omega
    have HKV : Hid ((Hx.kindOf (Hx.byteAt s st.pos) : Int) = kv) := hkv
    have hfin : Hid (Hx.letterF s n st = ⟨st.pos, true⟩) := by
      show _ = _
      unfold Hx.letterF
      by_cases h26 : n < 26
      · rw [if_pos h26, Hx.takeF_no (by intro e; exact h3 (by omega))]
      · rw [if_neg h26]
    clear h3 hkv
    go_enter Tryz.func88, Tryz.ntmps88
    go_wp2_with (go_at_call 83; refine (kind_val s b st _ _ hs hp HKV.out HT.out HR.out).mono ?_; rintro e w' ⟨rfl, n1, rfl⟩)
    go_returns
    rw [hfin.out]
    exact ⟨rfl, Rd.set2 (Rd.drewN HR.out _) true, grown_trans (grown_drewN _ _ _) (grown_set _ _ _ _)⟩

theorem up1 {n : Nat} (h : n ≤ 120) : n ≤ 1000 := by omega
theorem grown_alloc (w : World) (o : Obj) (row : Option Nat) : w.grownBy (w.alloc o) row := World.grownBy_alloc w o row
theorem Rd.alloc {T s b st w} (h : Rd T s b st w) (o : Obj) : Rd T s b st (w.alloc o) := h.kept (row := none) (grown_alloc w o none) (by simp)
theorem Tab.alloc {w : World} (h : Tab w) (o : Obj) : Tab (w.alloc o) := fun i hi => (grown_alloc w o none).cell (h i hi) (by simp)

theorem grown_set_new {w w' : World} {row : Option Nat} (h : w.grownBy w' row) {k : Nat} (hk : w.heap.size ≤ k) (o : Nat) (v : Value) : w.grownBy (w'.setCell ⟨k, o, none⟩ v) row :=
  ⟨h.os, h.tape, h.output, Nat.le_trans h.size (by simp [World.setCell]), fun i hi hne => (Below.heap_setCell _ _ _ _ (fun e => by have : i = k := e; omega)).trans (h.block i hi hne)⟩
theorem Rd.set_other {T s b st w} (h : Rd T s b st w) {k : Nat} (hk : k ≠ b) (o : Nat) (v : Value) : Rd T s b st (w.setCell ⟨k, o, none⟩ v) :=
  (Below.heap_setCell w ⟨k, o, none⟩ v b (fun e => hk e.symm)).trans h
theorem blk_new (w : World) (a : Array Value) (T : TypeId) : (w.alloc (.cells a T)).heap[w.heap.size]? = some (.cells a T (0, 0)) := by
  show (w.heap.push _)[_]? = _
  simp
theorem blk_cell {w : World} {k : Nat} {a : Array Value} {T : TypeId} (h : w.heap[k]? = some (.cells a T (0, 0))) (o : Nat) : w.cell? ⟨k, o, none⟩ = a[o]? := by simp [World.cell?, h]
theorem blk_free {w : World} {k : Nat} {a : Array Value} {T : TypeId} (h : w.heap[k]? = some (.cells a T (0, 0))) (o : Nat) : w.frozen? ⟨k, o, none⟩ = false := by simp [World.frozen?, h]
theorem blk_lt {w : World} {k : Nat} {o : Obj} (h : w.heap[k]? = some o) : k < w.heap.size := lt_of_block h
theorem blk_kept {w w' : World} {k : Nat} {o : Obj} {row : Option Nat} (h : w.heap[k]? = some o) (hg : w.grownBy w' row) (hne : some k ≠ row) : w'.heap[k]? = some o := (hg.block k (lt_of_block h) hne).trans h
theorem size_alloc_ (w : World) (o : Obj) : (w.alloc o).heap.size = w.heap.size + 1 := by simp

set_option maxHeartbeats 1000000 in
theorem bounds_any (s : ByteArray) (b : Nat) (st : Hx.St) (w : World) (hs : s.size ≤ 1000) (hp : st.pos ≤ s.size) (hb : 1 < b) (ht : Tab w) (hr : Rd 139 s b st w) :
    Calls Tryz.prog 89 #[.pointer (some ⟨b, 0, none⟩)] w fun e w' => e = .returned (.agg #[.int .i64 ((Hx.boundsF s st).1.lo : Int), .int .i64 ((Hx.boundsF s st).1.hi : Int)]) ∧ Rd 139 s b (Hx.boundsF s st).2 w' ∧ w.grownBy w' (some b) := by
  have HT : Hid (Tab w) := ht
  have HR : Hid (Rd 139 s b st w) := hr
  have HB : Hid (b < w.heap.size) := hr.lt
  clear ht hr
  go_enter Tryz.func89, Tryz.ntmps89
  go_wp2_with fail
  refine (number_any s b st _ 3 _ hs hp (by omega) rfl hb (Tab.alloc HT.out _) (Rd.alloc HR.out _)).mono ?_
  rintro e w1 ⟨rfl, hr1, hg1⟩
  have HR1 : Hid (Rd 139 s b (Hx.numF s 3 st).2 w1) := hr1
  have HT1 : Hid (Tab w1) := (Tab.alloc HT.out _).grown hb hg1
  have HB1 := hide (blk_kept (blk_new w #[.int .i64 0, .int .i64 0] 55) hg1 (by have := HB.out; simp; omega))
  have HG1 := hide (grown_trans (grown_alloc w _ _) hg1)
  clear hr1 hg1
  go_wp2_with fail
  refine (take_any s b _ _ 45 _ hs (Hx.numF_le hp) rfl (by omega) HR1.out).mono ?_
  rintro e w2 ⟨rfl, hr2, hg2⟩
  have HR2 : Hid (Rd 139 s b (Hx.takeF s 45 (Hx.numF s 3 st).2) w2) := hr2
  have HT2 : Hid (Tab w2) := HT1.out.grown hb hg2
  have HB2 := hide (blk_kept (unhide HB1) hg2 (by have := HB.out; simp; omega))
  have HG2 := hide (grown_trans (unhide HG1) hg2)
  clear hr2 hg2
  go_wp2_with fail
  refine (number_any s b _ _ 3 _ hs (Hx.takeF_le (by omega) (Hx.numF_le hp)) (by omega) rfl hb HT2.out HR2.out).mono ?_
  rintro e w3 ⟨rfl, hr3, hg3⟩
  have HB3 := blk_kept (unhide HB2) hg3 (by have := HB.out; simp; omega)
  have HG3 := hide (grown_trans (unhide HG2) hg3)
  have HR3 := hide hr3
  have c0 := blk_cell HB3 0
  have c1 := blk_cell HB3 1
  have f0 := blk_free HB3 0
  have f1 := blk_free HB3 1
  simp only [List.getElem?_toArray, List.getElem?_cons_zero, List.getElem?_cons_succ] at c0 c1
  clear hr3 hg3 HB3
  go_wp2_with fail
  refine bodyPost_ret (v := .agg #[.int .i64 ((Hx.boundsF s st).1.lo : Int), .int .i64 ((Hx.boundsF s st).1.hi : Int)]) (by simp [results, Tryz.results89, go_sem, c0, c1, Hx.boundsF]) rfl ?_
  exact ⟨rfl, Rd.set_other (Rd.set_other (unhide HR3) (by have := HB.out; omega) _ _) (by have := HB.out; omega) _ _, grown_set_new (grown_set_new (unhide HG3) (Nat.le_refl _) _ _) (Nat.le_refl _) _ _⟩

end Go.Proofs.YtppcnlkhdgmaiaaGreatDoor
