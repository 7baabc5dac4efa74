/- What looked and Look answer: the table, or the error and its place. -/
import Derived.Test.YtppcnlkhdgmaiaaGreatDoorRtD
import Derived.Test.YtppcnlkhdgmaiaaGreatDoorRgI
import Derived.Test.YtppcnlkhdgmaiaaGreatDoorLaC
namespace Go.Proofs.YtppcnlkhdgmaiaaGreatDoor
open Go.RowKit

/-- What looked answers. -/
def LkRes (s : ByteArray) (w : World) (e : Ending) (w' : World) : Prop := Below w.heap.size w w' ∧
  (((Hx.lookF s).1 ≠ 0 ∧ e = .returned (.tuple #[.agg #[.int .i64 0, .slice none 0 0], .int .i64 (Hx.lookF s).1, .int .i64 (Hx.lookF s).2])) ∨
   (Hx.lookF s = (0, 0) ∧ s.size ≤ 400 ∧ (Hx.tableF s).1.bad = false ∧ Hx.wrongF (Hx.tableF s).2 0 = (0, 0) ∧ (Hx.tableF s).2.length ≤ 401 ∧ ∃ v, e = .returned (.tuple #[.agg #[.int .i64 ((Hx.theadF s).1 : Int), v], .int .i64 0, .int .i64 0]) ∧ w'.ownsRow w.heap.size 146 11 v (Hx.tableF s).2.length (ptsCells (Hx.tableF s).2)))

theorem wrongF_cases (l : List Hx.TStp) (k : Nat) : Hx.wrongF l k = (0, 0) ∨ ∃ j : Nat, Hx.wrongF l k = (9, (j : Int)) := by
  induction k using Hx.wrongF.induct (l := l) with
  | case1 k hk hr ih => rw [Hx.wrongF_step hk, if_pos hr]; exact ih
  | case2 k hk hr => rw [Hx.wrongF_step hk, if_neg hr]; exact Or.inr ⟨k, rfl⟩
  | case3 k hk => rw [Hx.wrongF_end hk]; exact Or.inl rfl

theorem own_set_low {w : World} {base : Nat} {e : TypeId} {size : Nat} {v : Value} {n : Nat} {xs : List Value} (h : w.ownsRow base e size v n xs) {k : Nat} (hk : k < base) (o : Nat) (x : Value) : (w.setCell ⟨k, o, none⟩ x).ownsRow base e size v n xs := h.kept (grown_set w k o x) (own_ne h hk)

set_option maxRecDepth 100000 in
set_option maxHeartbeats 4000000 in
theorem looked_any (s : ByteArray) (w : World) (hs : s.size ≤ maxLen) (ht : Tab w) : Calls Tryz.prog 29 #[.string s] w (LkRes s w) := by
  unfold maxLen at hs
  have HT := hide ht
  clear ht
  obtain ⟨R, hR⟩ : ∃ R, R = LkRes s w := ⟨_, rfl⟩
  rw [← hR]
  have HR := hide hR
  clear hR
  go_enter Tryz.func29, Tryz.ntmps29
  by_cases hb : 400 < s.size
  · have HE : Hid (Hx.lookF s = (1, 0)) := if_pos hb
    have hbI : (400 : Int) < (s.size : Int) := by omega
    clear hb
    go_wp2_with fail
    refine bodyPost_ret (v := .tuple #[.agg #[.int .i64 0, .slice none 0 0], .int .i64 1, .int .i64 0]) (by simp [results, Tryz.results29, go_sem]) rfl ?_
    rw [unhide HR]
    refine ⟨(Below.refl _ _).alloc (Nat.le_refl _) _, Or.inl ⟨by rw [unhide HE]; decide, by rw [unhide HE]⟩⟩
  · have HE : Hid (Hx.lookF s = if (Hx.tableF s).1.bad then (2, ((Hx.tableF s).1.pos : Int)) else Hx.wrongF (Hx.tableF s).2 0) := if_neg hb
    have hbI : ¬ (400 : Int) < (s.size : Int) := by omega
    have hs4 : s.size ≤ 400 := by omega
    clear hb
    have HRD := hide (readtable_any s (w.alloc (.cells #[.int .i64 0, .slice none 0 0] 79)) hs4 ((unhide HT).alloc _))
    have HB0 := hide (blk_new w #[.int .i64 0, .slice none 0 0] 79)
    have HBE0 := hide (belA (.cells #[.int .i64 0, .slice none 0 0] 79) (Below.refl w.heap.size w))
    have hsz : (w.alloc (.cells #[.int .i64 0, .slice none 0 0] 79)).heap.size = w.heap.size + 1 := by simp
    go_wp2_with fail
    refine (unhide HRD).mono ?_
    rintro e w1 ⟨hbe, ⟨hbad, rfl⟩ | ⟨hbad, v, rfl, hown, hlen⟩⟩
    · have HE2 : Hid (Hx.lookF s = (2, ((Hx.tableF s).1.pos : Int))) := by show _ = _; rw [unhide HE, hbad]; rfl
      have HB1 := hide ((hbe.block _ (lt_of_block (unhide HB0))).trans (unhide HB0))
      have HBE := hide ((unhide HBE0).trans (hbe.mono (unhide HBE0).size))
      clear hbe hbad HE HRD HB0 HBE0
      have e0 : ∀ o, (w1.alloc o).cell? ⟨w.heap.size, 0, none⟩ = some (.int .i64 0) := fun o => cA o (blk_cell (unhide HB1) 0)
      have e1 : ∀ o, (w1.alloc o).cell? ⟨w.heap.size, 1, none⟩ = some (.slice none 0 0) := fun o => cA o (blk_cell (unhide HB1) 1)
      have ef : ∀ o k, (w1.alloc o).frozen? ⟨w.heap.size, k, none⟩ = false := fun o k => blk_free (bA o (unhide HB1)) k
      go_wp2_with fail
      refine bodyPost_ret (v := .tuple #[.agg #[.int .i64 0, .slice none 0 0], .int .i64 2, .int .i64 ((Hx.tableF s).1.pos : Int)]) (by simp [results, Tryz.results29, go_sem, e0, e1]) rfl ?_
      rw [unhide HR]
      refine ⟨?_, Or.inl ⟨by rw [unhide HE2]; exact (by decide : (2 : Int) ≠ 0), by rw [unhide HE2]⟩⟩
      have hle := Nat.le_refl w.heap.size
      exact (((unhide HBE).alloc (unhide HBE).size _).setCell hle _).setCell hle _
    · have HE2 : Hid (Hx.lookF s = Hx.wrongF (Hx.tableF s).2 0) := by show _ = _; rw [unhide HE, hbad]; rfl
      obtain ⟨l, hl⟩ : ∃ l, l = (Hx.tableF s).2 := ⟨_, rfl⟩
      obtain ⟨J, hJ⟩ : ∃ J, J = (Hx.theadF s).1 := ⟨_, rfl⟩
      have HOK : Hid (∀ y ∈ l, Hx.TOk y) := by rw [hl]; exact Hx.tableF_ok s
      rw [← hl] at hown hlen HE2
      rw [← hJ]
      have HL := hide hl
      have HJ := hide hJ
      have HBAD := hide hbad
      clear HE hbad hl hJ
      obtain ⟨ao, cap, rfl⟩ := own_form hown
      have HB1 := hide (bA (.cells #[.int .i64 (J : Int), .slice ao l.length cap] 79) ((hbe.block _ (lt_of_block (unhide HB0))).trans (unhide HB0)))
      have HBE := hide (belA (.cells #[.int .i64 (J : Int), .slice ao l.length cap] 79) ((unhide HBE0).trans (hbe.mono (unhide HBE0).size)))
      have HT1 := hide (bN #[.int .i64 (J : Int), .slice ao l.length cap] 79 (w := w1) rfl)
      rw [hsz] at hown
      have HOWN := hide (hown.alloc (.cells #[.int .i64 (J : Int), .slice ao l.length cap] 79))
      have htb : w.heap.size < w1.heap.size := by have := hbe.size; omega
      clear hbe HRD HB0 HBE0 hown hsz
      go_upto_region 6 with fail
      obtain ⟨tb, htb2⟩ : ∃ tb, tb = w1.heap.size := ⟨_, rfl⟩
      rw [← htb2] at HT1 htb ⊢
      clear htb2
      generalize w1.alloc (.cells #[.int .i64 (J : Int), .slice ao l.length cap] 79) = w2 at *
      have t1 : w2.cell? ⟨tb, 1, none⟩ = some (.slice ao l.length cap) := blk_cell (unhide HT1) 1
      go_wp2_with fail
      refine (notright_any l _ w2 (own_mono (unhide HOWN) (Nat.zero_le _)) hlen (unhide HOK)).mono ?_
      rintro e w3 ⟨rfl, hb3⟩
      have HB3 := hide ((hb3.block _ (lt_of_block (unhide HB1))).trans (unhide HB1))
      have HT3 := hide ((hb3.block _ (lt_of_block (unhide HT1))).trans (unhide HT1))
      have HBE3 := hide ((unhide HBE).trans (hb3.mono (unhide HBE).size))
      have HOWN3 := hide (own_below (unhide HOWN) hb3)
      clear hb3 HB1 HT1 HBE HOWN t1
      have e0 : w3.cell? ⟨w.heap.size, 0, none⟩ = some (.int .i64 0) := blk_cell (unhide HB3) 0
      have e1 : w3.cell? ⟨w.heap.size, 1, none⟩ = some (.slice none 0 0) := blk_cell (unhide HB3) 1
      have ef : ∀ k, w3.frozen? ⟨w.heap.size, k, none⟩ = false := fun k => blk_free (unhide HB3) k
      have t0 : w3.cell? ⟨tb, 0, none⟩ = some (.int .i64 (J : Int)) := blk_cell (unhide HT3) 0
      have t1 : w3.cell? ⟨tb, 1, none⟩ = some (.slice ao l.length cap) := blk_cell (unhide HT3) 1
      have hle := Nat.le_refl w.heap.size
      rcases wrongF_cases l 0 with hw | ⟨j, hw⟩
      · have HW := hide hw
        rw [hw]
        clear hw
        have hf : ((0 : Int) != 0) = false := by decide
        go_wp2_with fail
        refine bodyPost_ret (v := .tuple #[.agg #[.int .i64 (J : Int), .slice ao l.length cap], .int .i64 0, .int .i64 0]) (by simp [results, Tryz.results29, go_sem, e0, e1]) rfl ?_
        rw [unhide HR]
        refine ⟨((unhide HBE3).setCell hle _).setCell hle _, Or.inr ⟨by rw [unhide HE2, unhide HW], hs4, unhide HBAD, by rw [← unhide HL]; exact unhide HW, by rw [← unhide HL]; exact hlen, _, by rw [← unhide HJ], ?_⟩⟩
        rw [← unhide HL]
        exact own_mono (own_set_low (own_set_low (unhide HOWN3) (by omega) _ _) (by omega) _ _) (by omega)
      · have HW := hide hw
        rw [hw]
        clear hw
        have hf : ((9 : Int) != 0) = true := by decide
        go_wp2_with fail
        refine bodyPost_ret (v := .tuple #[.agg #[.int .i64 0, .slice none 0 0], .int .i64 9, .int .i64 (j : Int)]) (by simp [results, Tryz.results29, go_sem, e0, e1]) rfl ?_
        rw [unhide HR]
        refine ⟨((unhide HBE3).setCell hle _).setCell hle _, Or.inl ⟨by rw [unhide HE2, unhide HW]; exact (by decide : (9 : Int) ≠ 0), by rw [unhide HE2, unhide HW]⟩⟩

set_option maxHeartbeats 2000000 in
theorem look_any (s : ByteArray) (w : World) (hs : s.size ≤ maxLen) (ht : Tab w) :
    Calls Tryz.prog 14 #[.string s] w fun e w' => e = .returned (.tuple #[.int .i64 (Hx.lookF s).1, .int .i64 (Hx.lookF s).2]) ∧ Below w.heap.size w w' := by
  have HL := hide (looked_any s w hs ht)
  clear hs ht
  go_enter Tryz.func14, Tryz.ntmps14
  go_wp2_with fail
  refine (unhide HL).mono ?_
  rintro e w1 ⟨hbe, ⟨_, rfl⟩ | ⟨he, _, _, _, _, v, rfl, hown⟩⟩
  · have HBE := hide hbe
    clear hbe
    go_wp2_with fail
    go_returns
    exact ⟨rfl, (unhide HBE).alloc (unhide HBE).size _⟩
  · obtain ⟨ao, cap, rfl⟩ := own_form hown
    have HBE := hide hbe
    have HE := hide he
    clear hbe hown he
    go_wp2_with fail
    go_returns
    exact ⟨by rw [unhide HE]; rfl, (unhide HBE).alloc (unhide HBE).size _⟩

set_option maxRecDepth 100000 in
set_option maxHeartbeats 4000000 in
theorem plays_look (n : Int) (s t : ByteArray) (w : World) (hs : s.size ≤ maxLen) (ht : Tab w) :
    Calls Tryz.prog 8 #[.agg #[.int .i64 3, .int .i64 n, .string s, .string t]] w fun e w' => e = .returned (.bool true) ∧ Below w.heap.size w w' := by
  have HT := hide ht
  have HS := hide hs
  clear ht hs
  go_enter Tryz.func8, Tryz.ntmps8
  go_wp2_with fail
  refine (look_any s _ (unhide HS) (Tab.alloc (unhide HT) _)).mono ?_
  rintro e w1 ⟨rfl, hb1⟩
  have c2 : w1.cell? ⟨w.heap.size, 2, none⟩ = some (.string s) := by
    rw [hb1.cell (p := ⟨w.heap.size, 2, none⟩) (by simp)]
    exact blk_cell (blk_new w #[.int .i64 3, .int .i64 n, .string s, .string t] 26) 2
  have HB1 := hide (((Below.refl w.heap.size w).alloc (Nat.le_refl _) _).trans (hb1.mono (by simp)))
  clear hb1
  go_wp2_with fail
  refine (reflook_all s _ (unhide HS)).mono ?_
  rintro e w2 ⟨rfl, hb2⟩
  have HB2 := hide ((unhide HB1).trans (hb2.mono (unhide HB1).size))
  clear hb2
  go_wp2_with fail
  refine (num_any _ _).mono ?_
  rintro e w3 ⟨rfl, rfl⟩
  have e1 : ((Hx.lookF s).1 == (Hx.lookF s).1) = true := by simp
  have e2 : ((Hx.lookF s).2 == (Hx.lookF s).2) = true := by simp
  go_wp2_with fail
  go_returns
  exact ⟨rfl, unhide HB2⟩

theorem plays_looks : Plays Tab 3 3 := fun k n s t w h1 h2 hs _ ht => by
  obtain rfl : k = 3 := by omega
  exact plays_look n s t w hs ht

end Go.Proofs.YtppcnlkhdgmaiaaGreatDoor
