/- What the program's Run answers. -/
import Derived.Test.YtppcnlkhdgmaiaaGreatDoorRnA
namespace Go.Proofs.YtppcnlkhdgmaiaaGreatDoor
open Go.RowKit

set_option maxRecDepth 100000 in
set_option maxHeartbeats 4000000 in
theorem run_any (s t : ByteArray) (w : World) (hs : s.size ≤ maxLen) (ht : t.size ≤ maxLen) (htab : Tab w) (hon : Onm w) (hp : P10 w) :
    Calls Tryz.prog 16 #[.string s, .string t] w fun e w' => e = .returned (.tuple #[.string ⟨(Hx.refRunF s t).1.toArray⟩, .int .i64 (Hx.refRunF s t).2]) ∧ Below w.heap.size w w' := by
  obtain ⟨FIN, hFIN⟩ : ∃ FIN, FIN = Hx.refRunF s t := ⟨_, rfl⟩
  rw [← hFIN]
  have HLK := hide (looked_any s w hs htab)
  have HTAB := hide htab
  have HON := hide hon
  have HP := hide hp
  unfold maxLen at hs ht
  clear htab hon hp
  go_enter Tryz.func16, Tryz.ntmps16
  by_cases hb1 : 400 < s.size
  · have HF : Hid (FIN = ([], 1)) := by show _ = _; rw [hFIN, Hx.refRunF, if_pos (Or.inl hb1)]
    have hbI : (400 : Int) < (s.size : Int) := by omega
    clear hFIN hb1
    go_wp2_with fail
    go_returns
    exact ⟨by rw [unhide HF]; rfl, Below.refl _ _⟩
  · have hbI : ¬ (400 : Int) < (s.size : Int) := by omega
    by_cases hb2 : 800 < t.size
    · have HF : Hid (FIN = ([], 1)) := by show _ = _; rw [hFIN, Hx.refRunF, if_pos (Or.inr hb2)]
      have hbJ : (800 : Int) < (t.size : Int) := by omega
      clear hFIN hb1 hb2
      go_wp2_with fail
      go_returns
      exact ⟨by rw [unhide HF]; rfl, Below.refl _ _⟩
    · have hbJ : ¬ (800 : Int) < (t.size : Int) := by omega
      have ht8 : t.size ≤ 800 := by omega
      have hF2 : FIN = if (Hx.lookF s).1 ≠ 0 then ([], (Hx.lookF s).1) else if Hx.scrOk t = false then ([], 10) else (Hx.refGo (Hx.lookL (Hx.scr1 t).1) (Hx.theadF s).1 (Hx.scr2 t).1 (Hx.tableF s).2 0 0 [] [0, 0, 0, 0], 0) := by rw [hFIN, Hx.refRunF, if_neg (by omega)]
      have HF2 := hide hF2
      clear hFIN hF2 hb1 hb2
      go_wp2_with fail
      refine (unhide HLK).mono ?_
      rintro e w1 ⟨hbe, ⟨hne, rfl⟩ | ⟨he, hs4, hbad, hwr, hlen, v, rfl, hown⟩⟩
      · have HF : Hid (FIN = ([], (Hx.lookF s).1)) := by show _ = _; rw [unhide HF2, if_pos hne]
        have hneb : ((Hx.lookF s).1 != 0) = true := by simpa using hne
        have HBE := hide hbe
        clear hbe hne HF2
        go_wp2_with fail
        go_returns
        exact ⟨by rw [unhide HF]; rfl, (unhide HBE).alloc (unhide HBE).size _⟩
      · have HF3 : Hid (FIN = if Hx.scrOk t = false then ([], 10) else (Hx.refGo (Hx.lookL (Hx.scr1 t).1) (Hx.theadF s).1 (Hx.scr2 t).1 (Hx.tableF s).2 0 0 [] [0, 0, 0, 0], 0)) := by show _ = _; rw [unhide HF2, if_neg (by rw [he]; exact fun h => h rfl)]
        have HRT := hide (Hx.right_of hwr)
        have hJ10 : (Hx.theadF s).1 < 10 := Hx.numF_val s 1 _
        obtain ⟨l, hl⟩ : ∃ l, l = (Hx.tableF s).2 := ⟨_, rfl⟩
        obtain ⟨J, hJ⟩ : ∃ J, J = (Hx.theadF s).1 := ⟨_, rfl⟩
        rw [← hl] at hown hlen HRT HF3
        rw [← hJ] at hJ10 HF3 ⊢
        obtain ⟨a1, c1, rfl⟩ := own_form hown
        have HOWN := hide ((own_mono hown (Nat.zero_le _)).alloc (.cells #[.int .i64 (J : Int), .slice a1 l.length c1] 79))
        have HBE := hide (belA (.cells #[.int .i64 (J : Int), .slice a1 l.length c1] 79) hbe)
        have HTB := hide (bN #[.int .i64 (J : Int), .slice a1 l.length c1] 79 (w := w1) rfl)
        clear hbe hown he hbad hwr hl hJ HF2 HLK
        go_upto_region 4 with fail
        obtain ⟨tb, htb⟩ : ∃ tb, tb = w1.heap.size := ⟨_, rfl⟩
        rw [← htb] at HTB ⊢
        clear htb
        generalize w1.alloc (.cells #[.int .i64 (J : Int), .slice a1 l.length c1] 79) = w2 at *
        go_wp2_with fail
        refine (readscript_any t w2 ht8 ((unhide HTAB).below (unhide HBE))).mono ?_
        rintro e w3 ⟨hb3, ⟨hok, rfl⟩ | ⟨hok, hl1, hl2, v1, v2, rfl, hv1, hv2⟩⟩
        · have HF : Hid (FIN = ([], 10)) := by show _ = _; rw [unhide HF3, if_pos hok]
          have HB3 := hide (blB hb3 (unhide HBE))
          clear hb3 hok HF3
          go_wp2_with fail
          go_returns
          exact ⟨by rw [unhide HF]; rfl, (unhide HB3).alloc (unhide HB3).size _⟩
        · obtain ⟨clock, hck⟩ : ∃ clock, clock = (Hx.scr1 t).1 := ⟨_, rfl⟩
          obtain ⟨takes, htk⟩ : ∃ takes, takes = (Hx.scr2 t).1 := ⟨_, rfl⟩
          have htl : ∀ v ∈ takes, v < 1000 := by rw [htk]; exact fun v hv => Hx.numbersF_lt v hv
          have hcs : clock.sum ≤ 1000000 := by
            have := sum_le_mul (Hx.scr1 t).1 (fun v hv => Hx.numbersF_lt v hv)
            rw [hck]
            omega
          rw [← hck] at hv1 hl1 HF3
          rw [← htk] at hv2 hl2 HF3
          have HF : Hid (FIN = (Hx.tellF l (Hx.machF l J clock takes), 0)) := by
            show _ = _
            rw [unhide HF3, if_neg (by rw [hok]; decide), Hx.machine_is (unhide HRT)]; rfl
          obtain ⟨ca, cc, rfl⟩ := own_form hv1
          obtain ⟨ka, kc, rfl⟩ := own_form hv2
          have HV1 := hide ((own_mono hv1 (Nat.zero_le _)).alloc (.cells #[.slice ca clock.length cc, .slice ka takes.length kc] 84))
          have HV2 := hide ((own_mono hv2 (Nat.zero_le _)).alloc (.cells #[.slice ca clock.length cc, .slice ka takes.length kc] 84))
          have HOW := hide ((own_below (unhide HOWN) hb3).alloc (.cells #[.slice ca clock.length cc, .slice ka takes.length kc] 84))
          have HB4 := hide (belA (.cells #[.slice ca clock.length cc, .slice ka takes.length kc] 84) (blB hb3 (unhide HBE)))
          have HTB4 := hide (bA (.cells #[.slice ca clock.length cc, .slice ka takes.length kc] 84) (bBl hb3 (unhide HTB)))
          have HSB := hide (bN #[.slice ca clock.length cc, .slice ka takes.length kc] 84 (w := w3) rfl)
          have HTL := hide htl
          have HCS := hide hcs
          clear hb3 hok hv1 hv2 hck htk htl hcs HF3 HOWN HBE HTB
          go_upto_region 7 with fail
          obtain ⟨sb, hsb⟩ : ∃ sb, sb = w3.heap.size := ⟨_, rfl⟩
          rw [← hsb] at HSB ⊢
          clear hsb
          generalize w3.alloc (.cells #[.slice ca clock.length cc, .slice ka takes.length kc] 84) = w4 at *
          have t0 : w4.cell? ⟨tb, 0, none⟩ = some (.int .i64 (J : Int)) := blk_cell (unhide HTB4) 0
          have t1 : w4.cell? ⟨tb, 1, none⟩ = some (.slice a1 l.length c1) := blk_cell (unhide HTB4) 1
          have s0 : w4.cell? ⟨sb, 0, none⟩ = some (.slice ca clock.length cc) := blk_cell (unhide HSB) 0
          have s1 : w4.cell? ⟨sb, 1, none⟩ = some (.slice ka takes.length kc) := blk_cell (unhide HSB) 1
          have HSM := hide (start_mem w4 J (.slice a1 l.length c1) (.slice ca clock.length cc) (.slice ka takes.length kc) l clock takes (unhide HOW) (unhide HV1) (unhide HV2) (unhide HRT).ok hlen (by omega) (by omega) (unhide HTL) hJ10)
          have HRUN := hide (mrun_any _ _ _ _ _ (unhide HSM).1 (unhide HSM).2 (start_ok l) (by show 0 + clock.sum ≤ 1000000; have hh : clock.sum ≤ 1000000 := unhide HCS; omega))
          have HLKO := hide (mach_lk (l := l) (J := J) (unhide HTL) (unhide HCS))
          go_upto_region 10 with fail
          go_wp2_with fail
          refine (unhide HRUN).mono ?_
          rintro e w6 ⟨rfl, sv, hm6⟩
          have hg6 := hm6.gr
          have HB6 : Hid (Below w.heap.size w w6) := by
            have h1 := (unhide HB4).alloc (unhide HB4).size (.cells #[.int .i64 (J : Int), .slice a1 l.length c1, .slice ca clock.length cc, .slice ka takes.length kc, .int .i64 0, .int .i64 0, .bool false, .slice none 0 0, .int .i64 0, .int .i64 0, .int .i64 0, .int .i64 0] 91)
            exact h1.grown hg6 h1.size (fun k e => by cases e; exact (unhide HB4).size)
          have HM6 := hide hm6
          clear hm6 hg6
          have HW := hide (mwrite_any _ _ w6 _ sv _ (unhide HSM).1 (unhide HM6) (unhide HLKO).lt (unhide HLKO).k (unhide HLKO).len (unhide HLKO).st ((unhide HON).below (unhide HB6)) ((unhide HP).below (unhide HB6)))
          go_wp2_with fail
          refine (unhide HW).mono ?_
          rintro e w7 ⟨rfl, hb7⟩
          have HB7 := hide (blB hb7 (unhide HB6))
          clear hb7
          go_wp2_with fail
          go_returns
          rw [unhide HF]
          exact ⟨rfl, unhide HB7⟩

end Go.Proofs.YtppcnlkhdgmaiaaGreatDoor
