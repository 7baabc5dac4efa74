/- What the program's reader of scripts does: numbers, readScript. -/
import Derived.Test.YtppcnlkhdgmaiaaGreatDoorRtE
namespace Go.Proofs.YtppcnlkhdgmaiaaGreatDoor
open Go.RowKit

/-- Numbers with commas, as the program reads them. -/
def Hx.pnumsF (s : ByteArray) (st : Hx.St) : List Nat × Hx.St := if 48 ≤ Hx.byteAt s st.pos ∧ Hx.byteAt s st.pos ≤ 57 then (if st.bad = true then ([0], st) else Hx.numsF s st []) else ([], st)

/-- What is read behind a number. -/
def Hx.contF (s : ByteArray) (st : Hx.St) (acc : List Nat) : List Nat × Hx.St := if st.bad = false ∧ Hx.byteAt s st.pos = 44 then Hx.numsF s ⟨st.pos + 1, false⟩ acc else (acc, st)
theorem Hx.numsF_cont {s : ByteArray} {st : Hx.St} {acc : List Nat} (h : st.bad = false) : Hx.numsF s st acc = Hx.contF s (Hx.numF s 3 st).2 (acc ++ [(Hx.numF s 3 st).1]) := by
  rw [Hx.numsF, if_neg (by simp [h]), Hx.contF]
  by_cases hc : (Hx.numF s 3 st).2.bad = false ∧ Hx.byteAt s (Hx.numF s 3 st).2.pos = 44
  · have e : Hx.nextF s 44 (Hx.numF s 3 st).2 = (true, ⟨(Hx.numF s 3 st).2.pos + 1, false⟩) := if_pos hc
    rw [dif_pos (by rw [e]), e, if_pos hc]
  · have e := Hx.nextF_no hc
    rw [dif_neg (by rw [e]; exact Bool.false_ne_true), e, if_neg hc]
theorem Hx.contF_on {s : ByteArray} {st : Hx.St} {acc : List Nat} (h : st.bad = false) (h2 : Hx.byteAt s st.pos = 44) : Hx.contF s st acc = Hx.contF s (Hx.numF s 3 ⟨st.pos + 1, false⟩).2 (acc ++ [(Hx.numF s 3 ⟨st.pos + 1, false⟩).1]) := by
  rw [Hx.contF, if_pos ⟨h, h2⟩, Hx.numsF_cont rfl]
theorem Hx.contF_no {s : ByteArray} {st : Hx.St} {acc : List Nat} (h : ¬ (st.bad = false ∧ Hx.byteAt s st.pos = 44)) : Hx.contF s st acc = (acc, st) := if_neg h
theorem Hx.pnumsF_cont {s : ByteArray} {st : Hx.St} (hd : 48 ≤ Hx.byteAt s st.pos ∧ Hx.byteAt s st.pos ≤ 57) : Hx.pnumsF s st = Hx.contF s (Hx.numF s 3 st).2 [(Hx.numF s 3 st).1] := by
  rw [Hx.pnumsF, if_pos hd]
  cases hb : st.bad
  · rw [if_neg (by decide), Hx.numsF_cont hb]; rfl
  · rw [if_pos rfl, Hx.numF_bad hb, Hx.contF_no (by simp [hb])]

theorem snoc_nats (acc : List Nat) (n : Nat) : ints (nats (acc ++ [n])) = ints (nats acc) ++ [.int .i64 (n : Int)] := by simp [nats, ints]

set_option maxRecDepth 100000 in
set_option maxHeartbeats 4000000 in
theorem pnums_any (s : ByteArray) (b : Nat) (st : Hx.St) (w : World) (hs : s.size ≤ 1000) (hp : st.pos ≤ s.size) (hb : 1 < b) (ht : Tab w) (hr : Rd 139 s b st w) :
    Calls Tryz.prog 62 #[.pointer (some ⟨b, 0, none⟩)] w fun e w' => ∃ v, e = .returned v ∧ w'.ownsRow w.heap.size 3 1 v (Hx.pnumsF s st).1.length (ints (nats (Hx.pnumsF s st).1)) ∧ (Hx.pnumsF s st).1.length ≤ s.size + 1 ∧ Rd 139 s b (Hx.pnumsF s st).2 w' ∧ w.grownBy w' (some b) := by
  obtain ⟨i0, hi, hz0, hz1, hz2⟩ := info_parts Tryz.info3
  have HI := hide hi
  have HZ0 := hide hz0
  have HZ1 := hide hz1
  have HZ2 := hide hz2
  have HT : Hid (Tab w) := ht
  have HR : Hid (Rd 139 s b st w) := hr
  have HB : Hid (b < w.heap.size) := hr.lt
  clear hi hz0 hz1 hz2 ht hr
  go_enter Tryz.func62, Tryz.ntmps62
  by_cases hd : 48 ≤ Hx.byteAt s st.pos ∧ Hx.byteAt s st.pos ≤ 57
  · obtain ⟨kv, hkv, hk12⟩ : ∃ kv : Int, (Hx.kindOf (Hx.byteAt s st.pos) : Int) = kv ∧ (kv = 1 ∨ kv = 2) := by
      refine ⟨_, rfl, ?_⟩
      by_cases h0 : Hx.byteAt s st.pos = 48
      · exact Or.inl (by rw [(Hx.kindOf_one _).2 h0]; rfl)
      · exact Or.inr (by rw [(Hx.kindOf_two _).2 (by omega)]; rfl)
    have HKV := hide hkv
    have hP := Hx.pnumsF_cont hd
    have hnle := Hx.numF_le (s := s) (m := 3) (st := st) hp
    obtain ⟨⟨n0, st0⟩, hn0⟩ : ∃ r, Hx.numF s 3 st = r := ⟨_, rfl⟩
    have HN := hide (number_any s b st 3 3 (w.drewN 0) hs hp (by omega) rfl hb (Tab.drewN HT.out _) (Rd.drewN HR.out _))
    have HNUM := hide (fun n => number_any s b st 3 3 (w.drewN n) hs hp (by omega) rfl hb (Tab.drewN HT.out _) (Rd.drewN HR.out _))
    rw [hn0] at hP hnle HNUM
    have HP := hide hP
    simp only at hnle
    clear HN hn0
    clear hkv hd hP
    rcases hk12 with rfl | rfl
    all_goals
      go_wp2_with (first | (go_at_call 83; refine (kind_val s b st _ _ hs hp (unhide HKV) HT.out HR.out).mono ?_; rintro e w1 ⟨rfl, n1, rfl⟩) | (go_at_call 68; refine (unhide HNUM _).mono ?_; rintro e w2 ⟨rfl, hr2, hg2⟩; have HR2 := hide hr2; have HG2 := hide (grown_trans (grown_drewN _ _ _) hg2); clear hr2 hg2))
      have hown0 := World.ownsRow_lit (base := w.heap.size) (e := 3) (size := 1) w2 #[Value.int IntKind.i64 (n0 : Int)] 1 (unhide HG2).size (by unfold maxLen; omega) rfl
      have HOWN0 := hide hown0
      clear hown0 HKV HNUM
      go_loopg [4] (s.size - st0.pos) (fun gk v wr => ∃ (st' : Hx.St) (acc : List Nat), st'.pos ≤ s.size ∧ gk = s.size - st'.pos ∧ acc.length ≤ st'.pos + 1 ∧ wr.ownsRow w.heap.size 3 1 v acc.length (ints (nats acc)) ∧ Rd 139 s b st' wr ∧ w.grownBy wr (some b) ∧ Hx.contF s st' acc = Hx.pnumsF s st)
      case atStart => exact ⟨st0, [n0], hnle, rfl, by simp, unhide HOWN0, Rd.alloc (unhide HR2) _, grown_trans (unhide HG2) (grown_alloc _ _ _), (unhide HP).symm⟩
      case round =>
        clear HOWN0 HR2 HG2 HP
        obtain ⟨st', acc, hpos, rfl, hlen, hown, hrd, hgr, hfin⟩ := hrel
        have HOWN := hide hown
        have HRD := hide hrd
        have HGR := hide hgr
        have HTR : Hid (Tab wr) := HT.out.grown hb hgr
        have c2 := hrd.c2
        have hsz : Hid (w.heap.size ≤ wr.heap.size) := hgr.size
        clear hown hrd hgr
        cases hbad : st'.bad
        · rw [hbad] at c2
          by_cases h44 : Hx.byteAt s st'.pos = 44
          · rw [Hx.contF_on hbad h44] at hfin
            have hk := hide (show ((Hx.kindOf (Hx.byteAt s st'.pos) : Nat) : Int) = 5 by rw [(Hx.kindOf_five _).2 h44]; rfl)
            have hlt : st'.pos < s.size := Hx.byteAt_in (by omega)
            have htk := hide (Hx.takeF_yes hbad h44)
            have hge := Hx.numF_ge s 3 ⟨st'.pos + 1, false⟩
            have hle := Hx.numF_le (s := s) (m := 3) (st := ⟨st'.pos + 1, false⟩) (by show st'.pos + 1 ≤ _; omega)
            have HNUM := hide (fun W hT hR => number_any s b ⟨st'.pos + 1, false⟩ 3 3 W hs (by show st'.pos + 1 ≤ _; omega) (by omega) rfl hb hT hR)
            obtain ⟨⟨n5, st5⟩, hn5⟩ : ∃ r, Hx.numF s 3 ⟨st'.pos + 1, false⟩ = r := ⟨_, rfl⟩
            rw [hn5] at hfin hge hle HNUM
            simp only at hge hle
            have HFIN := hide hfin
            clear hbad h44 hfin hn5
            go_wp2_with fail
            refine (kind_val s b st' _ _ hs hpos (unhide hk) HTR.out (unhide HRD)).mono ?_
            rintro e w4 ⟨rfl, n4, rfl⟩
            go_wp2_with fail
            refine (take_any s b st' _ 44 _ hs hpos rfl (by omega) (Rd.drewN (unhide HRD) _)).mono ?_
            rintro e w4 ⟨rfl, hr4, hg4⟩
            rw [unhide htk] at hr4
            have HR4 := hide hr4
            have HT4 : Hid (Tab w4) := (Tab.drewN HTR.out _).grown hb hg4
            have HG4 := hide (grown_trans (grown_drewN wr _ _) hg4)
            clear hr4 hg4
            go_wp2_with fail
            refine (unhide HNUM _ HT4.out (unhide HR4)).mono ?_
            rintro e w5 ⟨rfl, hr5, hg5⟩
            have HR5 := hide hr5
            have HG5 := hide (grown_trans (unhide HG4) hg5)
            have HOWN5 := hide ((unhide HOWN).kept (unhide HG5) (own_ne (unhide HOWN) HB.out))
            clear hr5 hg5 HOWN HRD HG4 HR4 HT4 HTR HNUM
            go_wp2_with (at_builtin; refine wpList_append_own _ rfl _ _ 64 rfl w.heap.size 3 i0 (.int .i64 0) 1 8 Tryz.underlying64 (unhide HI) (unhide HZ0) (unhide HZ1) (unhide HZ2) rfl (by decide) _ _ _ rfl ((unhide HOWN5).alloc _) ⟨w5.heap.size, 0, none⟩ 1 1 [.int .i64 (n5 : Int)] rfl rfl ?c1 ?c2 ?c3 ?c4 ?c5 ?_)
            case c1 => exact news_new w5 [.int .i64 (n5 : Int)] 3
            case c2 => intro u hu; rw [List.mem_singleton.1 hu]; rfl
            case c3 => unfold maxLen; omega
            case c4 => omega
            case c5 => have := hsz.out; have := (unhide HG5).size; simp; omega
            · intro v' w6 hown' hgrow _
              have HOWN6 := hide hown'
              have HGROW := hide hgrow
              clear hown' hgrow
              go_wp2_with fail
              go_roundg (s.size - st5.pos)
              case measure => omega
              case rel =>
                refine ⟨st5, acc ++ [n5], hle, rfl, by simp; omega, ?_, ?_, ?_, unhide HFIN⟩
                · rw [snoc_nats, List.length_append]; exact unhide HOWN6
                · exact ((unhide HR5).alloc _).kept (unhide HGROW) (fun e => by rcases own_ne (unhide HOWN5) HB.out with h | h <;> simp_all)
                · exact grown_own (grown_trans (unhide HGR) (grown_trans (unhide HG5) (grown_alloc _ _ _))) (unhide HGROW) (fun k e => ((unhide HOWN5).lt k e).1)
          · rw [Hx.contF_no (fun g => h44 g.2)] at hfin
            have HFIN := hide hfin
            obtain ⟨kv, hkv, hk1⟩ : ∃ kv : Int, (Hx.kindOf (Hx.byteAt s st'.pos) : Int) = kv ∧ (kv == 5) = false := by
              refine ⟨_, rfl, ?_⟩
              rw [beq_eq_false_iff_ne]; intro e; exact h44 ((Hx.kindOf_five (Hx.byteAt s st'.pos)).1 (by omega))
            have HKV := hide hkv
            clear h44 hkv hbad hfin
            go_wp2_with fail
            refine (kind_val s b st' _ _ hs hpos (unhide HKV) HTR.out (unhide HRD)).mono ?_
            rintro e w4 ⟨rfl, n4, rfl⟩
            go_wp2_with fail
            go_returns
            rw [← unhide HFIN]
            exact ⟨_, rfl, unhide HOWN, by show acc.length ≤ _; omega, unhide HRD, grown_trans (unhide HGR) (grown_drewN _ _ _)⟩
        · rw [hbad] at c2
          rw [Hx.contF_no (by simp [hbad])] at hfin
          have HFIN := hide hfin
          clear hfin hbad
          go_wp2_with fail
          go_returns
          rw [← unhide HFIN]
          exact ⟨_, rfl, unhide HOWN, by show acc.length ≤ _; omega, unhide HRD, unhide HGR⟩
  · obtain ⟨kv, hkv, hk1, hk2⟩ : ∃ kv : Int, (Hx.kindOf (Hx.byteAt s st.pos) : Int) = kv ∧ (kv != 1) = true ∧ (kv != 2) = true := by
      refine ⟨_, rfl, ?_, ?_⟩
      · rw [bne_iff_ne]; intro e; have := (Hx.kindOf_one (Hx.byteAt s st.pos)).1 (by omega); omega
      · rw [bne_iff_ne]; intro e; have := (Hx.kindOf_two (Hx.byteAt s st.pos)).1 (by omega); omega
    have HKV := hide hkv
    have HP : Hid (Hx.pnumsF s st = ([], st)) := if_neg hd
    clear hkv hd
    go_wp2_with (go_at_call 83; refine (kind_val s b st _ _ hs hp (unhide HKV) HT.out HR.out).mono ?_; rintro e w' ⟨rfl, n1, rfl⟩)
    go_returns
    rw [unhide HP]
    exact ⟨_, rfl, World.ownsRow_nil _ _ _ _, Nat.zero_le _, Rd.drewN HR.out _, grown_drewN _ _ _⟩

end Go.Proofs.YtppcnlkhdgmaiaaGreatDoor
