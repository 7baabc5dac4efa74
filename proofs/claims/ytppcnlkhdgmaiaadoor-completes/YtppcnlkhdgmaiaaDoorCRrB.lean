/- What the program's Plan answers. hatchkeep's planned, where only the tables of bytes and of powers of ten are wanted. What the cards of laws over shapes share: a shape that comes in, opened to its raw numbers. The plain mathematics of a timetable's text: it is read as what it was written of. A table of numbers in memory: a slice of slices of numbers, its rows apart from one another. Small parts of the document's side: End, first, joined. What the document's Look answers. How the document reads a list of numbers: numbers. How the document reads a script: numbers, Script. How the document reads a script: Script. What the document's looks does: the times at which the machine looks at its clock. What the document's Run needs: names and numbers as they are written; where a look is. -/
import Derived.Test.YtppcnlkhdgmaiaaDoorCPxB
import Derived.Test.YtppcnlkhdgmaiaaDoorCPf
import Derived.Test.YtppcnlkhdgmaiaaDoorCPlC
import Derived.Test.YtppcnlkhdgmaiaaDoorCPs
import Derived.Test.YtppcnlkhdgmaiaaDoorCPz
import Derived.Test.YtppcnlkhdgmaiaaDoorCPlB
import Derived.Test.YtppcnlkhdgmaiaaDoorCPlA
import Derived.BigQuiet
import Derived.Test.YtppcnlkhdgmaiaaDoorCRtC
import Derived.Deep.Onto
import Derived.Test.YtppcnlkhdgmaiaaDoorCRmA
import Derived.Deep.RegionLaw
import Derived.Lib.Strings
namespace Go.Proofs.YtppcnlkhdgmaiaaDoor
open Go.RowKit

namespace Hx
theorem bestF_mem (J D : Nat) (ps : List (List Stp)) : ∀ (os : List (List Nat)) (b : Bst), bestF J D ps os = some b → b.o ∈ os ∧ candF J D ps b.o = some (b.f, b.e) := by
  have key : ∀ (os : List (List Nat)) (acc : Option Bst) (b : Bst), os.foldl (betterF J D ps) acc = some b → (acc = some b) ∨ (b.o ∈ os ∧ candF J D ps b.o = some (b.f, b.e)) := by
    intro os
    induction os with
    | nil => intro acc b h; exact Or.inl h
    | cons o os ih =>
      intro acc b h
      rcases ih _ b h with h | ⟨h1, h2⟩
      · unfold betterF at h
        split at h
        · exact Or.inl h
        · rename_i f e hc
          split at h
          · cases h; exact Or.inr ⟨by simp, hc⟩
          · split at h
            · cases h; exact Or.inr ⟨by simp, hc⟩
            · exact Or.inl h
      · exact Or.inr ⟨by simp [h1], h2⟩
  intro os b h
  rcases key os none b h with h | h
  · cases h
  · exact h
theorem candF_early {J D : Nat} {ps : List (List Stp)} {o : List Nat} {f : Nat → Int} {e : Int} (h : candF J D ps o = some (f, e)) : earlyF J (o.map (turnOfIdx ps)) = some f ∧ e = endT J (o.map (turnOfIdx ps)) f ∧ e ≤ (D : Int) := by
  unfold candF at h
  split at h
  · cases h
  · rename_i f' hf
    split at h
    · rename_i hd; cases h; exact ⟨hf, rfl, hd⟩
    · cases h

theorem raiseF_bd : ∀ (ls : List Lim) (f : Nat → Int) (b : Bool) (B : Int), 0 ≤ B → (∀ l ∈ ls, l.more ≤ 4000) → (∀ i, 0 ≤ f i ∧ f i ≤ B) → ∀ i, 0 ≤ (raiseF ls f b).1 i ∧ (raiseF ls f b).1 i ≤ B + 4000 * (ls.length : Int)
  | [], f, b, B, _, _, h, i => by simpa [raiseF] using h i
  | l :: r, f, b, B, hB, hm, h, i => by
    have hl := hm l (by simp)
    have hr : ∀ l ∈ r, l.more ≤ 4000 := fun x hx => hm x (by simp [hx])
    rw [raiseF]
    split
    · rename_i g
      have h1 := h l.fr
      have h2 := h l.to
      have := raiseF_bd r (updT f l.to (f l.fr + l.more)) true (B + 4000) (by omega) hr (fun j => by
        unfold updT
        have := h j
        split <;> omega) i
      rw [List.length_cons]
      omega
    · have := raiseF_bd r f b B hB hr h i
      rw [List.length_cons]
      omega
theorem roundsF_bd {ls : List Lim} (hm : ∀ l ∈ ls, l.more ≤ 4000) (hl : ls.length ≤ 300) : ∀ (k : Nat) (f g : Nat → Int) (B : Int), 0 ≤ B → (∀ i, 0 ≤ f i ∧ f i ≤ B) → roundsF ls k f = some g → ∀ i, 0 ≤ g i ∧ g i ≤ B + 1200000 * (k : Int)
  | 0, f, g, B, _, _, h => by cases h
  | k + 1, f, g, B, hB, hf, h => by
    have h1 := raiseF_bd ls f false B hB hm hf
    have h1' : ∀ i, 0 ≤ (raiseF ls f false).1 i ∧ (raiseF ls f false).1 i ≤ B + 1200000 := fun i => by have := h1 i; omega
    rw [roundsF] at h
    intro i
    split at h
    · have := roundsF_bd hm hl k _ g (B + 1200000) (by omega) h1' h i
      omega
    · cases h
      have := h1' i
      omega
theorem earlyF_bd {J : Nat} {o : List Trn} {f : Nat → Int} (hJ : J < 10) (hsm : ∀ t ∈ o, t.x.lo < 1000 ∧ t.x.hi < 1000 ∧ t.x.mn < 1000 ∧ t.x.mx < 1000) (hol : o.length ≤ 100) (h : earlyF J o = some f) : ∀ i, 0 ≤ f i ∧ f i ≤ 200000000 := by
  have hl := limsOf_len J o
  intro i
  have := roundsF_bd (fun l hl => (limsOf_more hJ hsm l hl).2) (by omega) o.length (fun _ => 0) f 0 (by omega) (fun i => by omega) h i
  omega

theorem allO_form (K : Nat) (L : List Lst) : ∀ (d : Nat) (l o : List Nat), o ∈ allO K L d l → o.length = l.length + d ∧ ∀ i ∈ o, i ∈ l ∨ i < L.length
  | 0, l, o, h => by
    rw [allO, List.mem_singleton] at h
    subst h
    exact ⟨rfl, fun i hi => Or.inl hi⟩
  | d + 1, l, o, h => by
    rw [allO, List.mem_flatMap] at h
    obtain ⟨i, hi, h⟩ := h
    split at h
    · obtain ⟨h1, h2⟩ := allO_form K L d _ o h
      refine ⟨by rw [h1, List.length_append]; simp; omega, fun j hj => ?_⟩
      rcases h2 j hj with h2 | h2
      · rcases List.mem_append.1 h2 with h2 | h2
        · exact Or.inl h2
        · rw [List.mem_singleton.1 h2]; exact Or.inr (List.mem_range.1 hi)
      · exact Or.inr h2
    · cases h
theorem ordersF_fst (K : Nat) (ps : List (List Stp)) (N : Nat) : ((ordersF K ps).take N).map (·.1) = (allO K (labs ps) (labs ps).length []).take N := by
  rw [List.map_take, ordersF, flagL_fst]
theorem order_form {K : Nat} {ps : List (List Stp)} {N : Nat} {o : List Nat} (h : o ∈ ((ordersF K ps).take N).map (·.1)) : o.length = (labs ps).length ∧ ∀ i ∈ o, i < (labs ps).length := by
  rw [ordersF_fst] at h
  obtain ⟨h1, h2⟩ := allO_form K (labs ps) _ [] o (List.mem_of_mem_take h)
  refine ⟨by rw [h1]; simp, fun i hi => ?_⟩
  rcases h2 i hi with h | h
  · cases h
  · exact h

theorem turn_sm {J K D : Nat} {ps : List (List Stp)} (h : GoodP J K D ps) {i : Nat} (hi : i < (labs ps).length) : TSm ps.length (turnOfIdx ps i) := by
  obtain ⟨p, n, q, x, hq, hx, rfl⟩ := labs_inv hi
  have e : turnOfIdx ps (offP ps p + n) = ⟨x, p, n, restAfter (labs ps) (offP ps p + n)⟩ := by
    unfold turnOfIdx
    rw [labs_at hq hx]
  rw [e]
  have hp : p < ps.length := getElem?_lt hq
  have hn : n < q.length := getElem?_lt hx
  have h5 := h.five q (List.mem_of_getElem? hq)
  have h4 := h.le
  obtain ⟨a, b, c, d⟩ := h.small q (List.mem_of_getElem? hq) x (List.mem_of_getElem? hx)
  exact ⟨hp, by show p < 26; omega, by show n < 10; omega, a, b, c, d⟩
theorem tight_sm {J K D : Nat} {ps : List (List Stp)} (h : GoodP J K D ps) (ht : (firstTight J (labs ps)).isSome = true) : TSm ps.length (tightT J ps) := by
  cases hf : firstTight J (labs ps) with
  | none => rw [hf] at ht; cases ht
  | some i =>
    unfold tightT
    rw [hf]
    exact turn_sm h (List.mem_range.1 (List.mem_of_find?_eq_some hf))
end Hx

set_option maxRecDepth 100000 in
set_option maxHeartbeats 8000000 in
theorem plan_any (s : ByteArray) (N : Int) (w : World) (hs : s.size ≤ maxLen) (htab : Tab w) (hp : P10 w) :
    Calls Tryd.prog 16 #[.string s, .int .i64 N] w fun e w' => e = .returned (.tuple #[.string ⟨(Hx.planF s N).1.toArray⟩, .bool (Hx.planF s N).2.1, .int .i64 (Hx.planF s N).2.2]) ∧ Below w.heap.size w w' := by
  obtain ⟨FIN, hFIN⟩ : ∃ FIN, FIN = Hx.planF s N := ⟨_, rfl⟩
  rw [← hFIN]
  have HCK := hide (checked_any s w hs htab)
  have HP := hide hp
  clear htab hp
  go_enter Tryd.func16, Tryd.ntmps16
  go_wp2_with fail
  refine (unhide HCK).mono ?_
  rintro e w1 ⟨hb1, ⟨hne, rfl⟩ | ⟨heq, v, rfl, hps⟩⟩
  · have HF : Hid (FIN = ([], false, ((Hx.checkF s).1 : Int))) := by show _ = _; rw [hFIN, Hx.planF, if_pos hne]
    have hneb : (((Hx.checkF s).1 : Int) != 0) = true := by simpa using hne
    have HB1 := hide hb1
    clear hb1 hne hFIN
    go_wp2_with fail
    go_returns
    exact ⟨by rw [unhide HF]; rfl, (unhide HB1).alloc (unhide HB1).size _⟩
  · have hgp := (Hx.good_prot (s := s) (by rw [heq])).2
    have hF1 : FIN = if N < 0 ∨ 1000 < N then (([], false, 5) : List UInt8 × Bool × Int)
        else if (Hx.firstTight (Hx.headJ s).1 (Hx.labs (Hx.protF s).2)).isSome then ((Hx.nameB (Hx.tightT (Hx.headJ s).1 (Hx.protF s).2).pl (Hx.tightT (Hx.headJ s).1 (Hx.protF s).2).no).data.toList, false, 6)
        else Hx.planB (Hx.headJ s).1 (Hx.headK s).1 (Hx.headD s).1 (Hx.protF s).2 N.toNat := by
      rw [hFIN, Hx.planF, if_neg (by rw [heq]; simp)]
    obtain ⟨J, hJ⟩ : ∃ J, J = (Hx.headJ s).1 := ⟨_, rfl⟩
    obtain ⟨K, hK⟩ : ∃ K, K = (Hx.headK s).1 := ⟨_, rfl⟩
    obtain ⟨D, hD⟩ : ∃ D, D = (Hx.headD s).1 := ⟨_, rfl⟩
    obtain ⟨ps, hpse⟩ : ∃ ps, ps = (Hx.protF s).2 := ⟨_, rfl⟩
    rw [← hJ, ← hK, ← hD, ← hpse] at hgp hF1
    rw [← hJ, ← hK, ← hD]
    rw [← hpse] at hps
    have HF1 := hide hF1
    have HG := hide hgp
    obtain ⟨ao, capv, rfl⟩ : ∃ ao cap, v = .slice ao ps.length cap := by
      obtain ⟨vs, h1, _⟩ := hps
      exact own_form h1
    have HB2 := hide (belA (.cells #[.int .i64 (J : Int), .int .i64 (K : Int), .int .i64 (D : Int), .slice ao ps.length capv] 75) hb1)
    have HPS2 := hide (hps.below ((Below.refl w1.heap.size w1).alloc (Nat.le_refl _) (.cells #[.int .i64 (J : Int), .int .i64 (K : Int), .int .i64 (D : Int), .slice ao ps.length capv] 75)))
    have HX := hide (bN #[.int .i64 (J : Int), .int .i64 (K : Int), .int .i64 (D : Int), .slice ao ps.length capv] 75 (w := w1) rfl)
    clear hb1 hps hgp hF1 hFIN heq hJ hK hD hpse HCK hs
    by_cases hN0 : N < 0
    · have HF : Hid (FIN = ([], false, 5)) := by show _ = _; rw [unhide HF1, if_pos (Or.inl hN0)]
      clear HF1
      go_wp2_with fail
      go_returns
      exact ⟨by rw [unhide HF]; rfl, unhide HB2⟩
    · by_cases hN1 : 1000 < N
      · have HF : Hid (FIN = ([], false, 5)) := by show _ = _; rw [unhide HF1, if_pos (Or.inr hN1)]
        clear HF1
        go_wp2_with fail
        go_returns
        exact ⟨by rw [unhide HF]; rfl, unhide HB2⟩
      · have HF2 : Hid (FIN = if (Hx.firstTight J (Hx.labs ps)).isSome then (((Hx.nameB (Hx.tightT J ps).pl (Hx.tightT J ps).no).data.toList, false, 6) : List UInt8 × Bool × Int)
            else Hx.planB J K D ps N.toNat) := by
          show _ = _
          rw [unhide HF1, if_neg (by omega)]
        clear HF1
        go_upto_region 6 with fail
        obtain ⟨pb, hpb⟩ : ∃ pb, pb = w1.heap.size := ⟨_, rfl⟩
        rw [← hpb] at HX ⊢
        clear hpb
        generalize w1.alloc (.cells #[.int .i64 (J : Int), .int .i64 (K : Int), .int .i64 (D : Int), .slice ao ps.length capv] 75) = w2 at *
        obtain ⟨fb, hfb⟩ : ∃ fb, fb = (Hx.firstTight J (Hx.labs ps)).isSome := ⟨_, rfl⟩
        obtain ⟨t, ht⟩ : ∃ t, t = Hx.tightT J ps := ⟨_, rfl⟩
        have HH : Hid (Calls Tryd.prog 32 #[.agg #[.int .i64 (J : Int), .int .i64 (K : Int), .int .i64 (D : Int), .slice ao ps.length capv]] w2 fun e w' => e = .returned (.tuple #[.agg #[.int .i64 (t.x.lo : Int), .int .i64 (t.x.hi : Int), .bool t.x.rest, .int .i64 (t.x.mn : Int), .int .i64 (t.x.mx : Int), .int .i64 (t.pl : Int), .int .i64 (t.no : Int), .bool t.beg], .bool fb]) ∧ Below w2.heap.size w2 w') := by
          have hg := unhide HG
          have hle := hg.le
          rw [hfb, ht]
          exact hope_any J K D _ w.heap.size ps w2 (unhide HPS2) hg.pos (by omega) hg.fine hg.small hg.j
        have HTS : Hid (fb = true → Hx.TSm ps.length t) := fun h => by rw [ht]; exact Hx.tight_sm (unhide HG) (by rw [← hfb]; exact h)
        rw [← hfb, ← ht] at HF2
        clear hfb ht
        have q0 : w2.cell? ⟨pb, 0, none⟩ = some (.int .i64 (J : Int)) := blk_cell (unhide HX) 0
        have q1 : w2.cell? ⟨pb, 1, none⟩ = some (.int .i64 (K : Int)) := blk_cell (unhide HX) 1
        have q2 : w2.cell? ⟨pb, 2, none⟩ = some (.int .i64 (D : Int)) := blk_cell (unhide HX) 2
        have q3 : w2.cell? ⟨pb, 3, none⟩ = some (.slice ao ps.length capv) := blk_cell (unhide HX) 3
        go_wp2_with fail
        refine (unhide HH).mono ?_
        rintro e w3 ⟨rfl, hb3⟩
        have HB4 := hide (belA (.cells #[.int .i64 (t.x.lo : Int), .int .i64 (t.x.hi : Int), .bool t.x.rest, .int .i64 (t.x.mn : Int), .int .i64 (t.x.mx : Int), .int .i64 (t.pl : Int), .int .i64 (t.no : Int), .bool t.beg] 83) (belB hb3 (unhide HB2)))
        have HW4 : Hid (Below w2.heap.size w2 (w3.alloc (.cells #[.int .i64 (t.x.lo : Int), .int .i64 (t.x.hi : Int), .bool t.x.rest, .int .i64 (t.x.mn : Int), .int .i64 (t.x.mx : Int), .int .i64 (t.pl : Int), .int .i64 (t.no : Int), .bool t.beg] 83))) := belA _ hb3
        have HX4 := hide (bBel (unhide HW4) (unhide HX))
        have HT4 := hide (bN #[.int .i64 (t.x.lo : Int), .int .i64 (t.x.hi : Int), .bool t.x.rest, .int .i64 (t.x.mn : Int), .int .i64 (t.x.mx : Int), .int .i64 (t.pl : Int), .int .i64 (t.no : Int), .bool t.beg] 83 (w := w3) rfl)
        have HPS4 := hide ((unhide HPS2).below (unhide HW4))
        clear hb3 q0 q1 q2 q3 HH HB2 HX HPS2 HW4
        go_upto_region 7 with fail
        obtain ⟨tb, htb⟩ : ∃ tb, tb = w3.heap.size := ⟨_, rfl⟩
        rw [← htb] at HT4 ⊢
        clear htb
        generalize w3.alloc (.cells #[.int .i64 (t.x.lo : Int), .int .i64 (t.x.hi : Int), .bool t.x.rest, .int .i64 (t.x.mn : Int), .int .i64 (t.x.mx : Int), .int .i64 (t.pl : Int), .int .i64 (t.no : Int), .bool t.beg] 83) = w4 at *
        cases fb with
        | true =>
          have hts := unhide HTS rfl
          have HF : Hid (FIN = ((Hx.nameB t.pl t.no).data.toList, false, 6)) := by show _ = _; rw [unhide HF2, if_pos rfl]
          have y0 : w4.cell? ⟨tb, 0, none⟩ = some (.int .i64 (t.x.lo : Int)) := blk_cell (unhide HT4) 0
          have y1 : w4.cell? ⟨tb, 1, none⟩ = some (.int .i64 (t.x.hi : Int)) := blk_cell (unhide HT4) 1
          have y2 : w4.cell? ⟨tb, 2, none⟩ = some (.bool t.x.rest) := blk_cell (unhide HT4) 2
          have y3 : w4.cell? ⟨tb, 3, none⟩ = some (.int .i64 (t.x.mn : Int)) := blk_cell (unhide HT4) 3
          have y4 : w4.cell? ⟨tb, 4, none⟩ = some (.int .i64 (t.x.mx : Int)) := blk_cell (unhide HT4) 4
          have y5 : w4.cell? ⟨tb, 5, none⟩ = some (.int .i64 (t.pl : Int)) := blk_cell (unhide HT4) 5
          have y6 : w4.cell? ⟨tb, 6, none⟩ = some (.int .i64 (t.no : Int)) := blk_cell (unhide HT4) 6
          have y7 : w4.cell? ⟨tb, 7, none⟩ = some (.bool t.beg) := blk_cell (unhide HT4) 7
          have HNM := hide (tname_any t w4 hts.pl26 hts.no)
          clear hts HF2 HTS
          go_wp2_with fail
          refine (unhide HNM).mono ?_
          rintro e w5 ⟨rfl, hb5⟩
          have HB5 := hide (belB hb5 (unhide HB4))
          clear hb5
          go_wp2_with fail
          go_returns
          refine ⟨?_, unhide HB5⟩
          rw [unhide HF]
          simp only [Array.toArray_toList]
          rfl
        | false =>
          have HF3 : Hid (FIN = Hx.planB J K D ps N.toNat) := by show _ = _; rw [unhide HF2, if_neg (by simp)]
          have q0 : w4.cell? ⟨pb, 0, none⟩ = some (.int .i64 (J : Int)) := blk_cell (unhide HX4) 0
          have q1 : w4.cell? ⟨pb, 1, none⟩ = some (.int .i64 (K : Int)) := blk_cell (unhide HX4) 1
          have q2 : w4.cell? ⟨pb, 2, none⟩ = some (.int .i64 (D : Int)) := blk_cell (unhide HX4) 2
          have q3 : w4.cell? ⟨pb, 3, none⟩ = some (.slice ao ps.length capv) := blk_cell (unhide HX4) 3
          clear HF2 HTS HT4
          by_cases hz : N = 0
          · subst hz
            have HF : Hid (FIN = ([], false, 8)) := by show _ = _; rw [unhide HF3]; rfl
            clear HF3
            go_wp2_with fail
            refine (best_zero J K D ao ps.length capv w4).mono ?_
            rintro e w5 ⟨rfl, hb5⟩
            have HB5 := hide (belA (.cells #[.slice none 0 0, .slice none 0 0, .int .i64 0] 89) (belB hb5 (unhide HB4)))
            clear hb5
            go_wp2_with fail
            go_returns
            exact ⟨by rw [unhide HF]; rfl, unhide HB5⟩
          · obtain ⟨n, rfl⟩ : ∃ n : Nat, N = (n : Int) := ⟨N.toNat, by omega⟩
            have hn0 : 0 < n := by omega
            have hn1 : n ≤ 1000 := by omega
            rw [Int.toNat_natCast] at HF3
            have HBT : Hid (Calls Tryd.prog 34 #[.agg #[.int .i64 (J : Int), .int .i64 (K : Int), .int .i64 (D : Int), .slice ao ps.length capv], .int .i64 (n : Int)] w4 (BestRes w4 J K D ps n)) := by
              have hg := unhide HG
              have hle := hg.le
              exact best_any J K D n w.heap.size _ ps w4 hn0 hn1 (unhide HPS4) hg.pos (by omega) (fun b => hg.goodC _ b)
            have HMO : Hid (Hx.moreF K ps n = Hx.lastB ((Hx.ordersF K ps).take n)) := by show _ = _; rw [Hx.moreF, if_neg (by omega)]
            clear hz hN0 hN1
            go_wp2_with fail
            refine (unhide HBT).mono ?_
            rintro e w5 ⟨ov, tv, en, rfl, hb5, hnone, hsome⟩
            obtain ⟨mb, hmb⟩ : ∃ mb, mb = Hx.lastB ((Hx.ordersF K ps).take n) := ⟨_, rfl⟩
            rw [← hmb] at HMO ⊢
            clear hmb HBT
            cases hbf : Hx.bestF J D ps (((Hx.ordersF K ps).take n).map (·.1)) with
            | none =>
              obtain ⟨rfl, rfl, rfl⟩ := hnone hbf
              have HF : Hid (FIN = ([], false, if mb then 8 else 7)) := by show _ = _; rw [unhide HF3, Hx.planB, hbf]; simp only; rw [unhide HMO]
              have HB5 := hide (belA (.cells #[.slice none 0 0, .slice none 0 0, .int .i64 0] 89) (belB hb5 (unhide HB4)))
              clear hnone hsome hb5 hbf HF3 HMO
              simp only [Option.isSome_none]
              cases mb with
              | true =>
                go_wp2_with fail
                go_returns
                exact ⟨by rw [unhide HF]; rfl, unhide HB5⟩
              | false =>
                go_wp2_with fail
                go_returns
                exact ⟨by rw [unhide HF]; rfl, unhide HB5⟩
            | some b =>
              obtain ⟨rfl, hov, htv⟩ := hsome b hbf
              obtain ⟨hbo, hbc⟩ := Hx.bestF_mem J D ps _ b hbf
              obtain ⟨hbl, hbi⟩ := Hx.order_form hbo
              obtain ⟨hbe, _, _⟩ := Hx.candF_early hbc
              have hg := unhide HG
              have hall := hg.all
              have hsome0 : 0 < (Hx.labs ps).length := (hg.goodC (.slice ao ps.length capv) ⟨0, 0, 0, 0, 0, 0, 0⟩).some
              have hts : ∀ t ∈ b.o.map (Hx.turnOfIdx ps), Hx.TSm ps.length t := fun t ht => by
                obtain ⟨i, hi, rfl⟩ := List.mem_map.1 ht
                exact Hx.turn_sm hg (hbi i hi)
              have hml : (b.o.map (Hx.turnOfIdx ps)).length = b.o.length := by simp
              have hfb : ∀ i, i < (b.o.map (Hx.turnOfIdx ps)).length → 0 ≤ b.f i ∧ b.f i ≤ 200000000 := fun i _ => Hx.earlyF_bd hg.j (fun t ht => ⟨(hts t ht).lo, (hts t ht).hi, (hts t ht).mn, (hts t ht).mx⟩) (by rw [hml]; omega) hbe i
              have HF : Hid (FIN = (Hx.writeF J ps.length (Hx.pairs (b.o.map (Hx.turnOfIdx ps)) b.f), !mb, 0)) := by show _ = _; rw [unhide HF3, Hx.planB, hbf]; simp only; rw [unhide HMO]
              obtain ⟨o1, c1, rfl⟩ := own_form hov
              obtain ⟨o2, c2, rfl⟩ := own_form htv
              obtain ⟨o, ho⟩ : ∃ o, o = b.o.map (Hx.turnOfIdx ps) := ⟨_, rfl⟩
              rw [← ho] at hov hts hml hfb HF ⊢
              rw [← hml] at htv ⊢
              have hop : 0 < o.length := by omega
              have hol : o.length ≤ 100 := by omega
              obtain ⟨f, hf⟩ : ∃ f, f = b.f := ⟨_, rfl⟩
              obtain ⟨en, hen⟩ : ∃ en, en = b.e := ⟨_, rfl⟩
              rw [← hf] at htv hfb HF
              rw [← hen]
              have HB6 := hide (belA (.cells #[.slice o1 o.length c1, .slice o2 o.length c2, .int .i64 en] 89) (belB hb5 (unhide HB4)))
              have HW6 : Hid (Below w4.heap.size w4 (w5.alloc (.cells #[.slice o1 o.length c1, .slice o2 o.length c2, .int .i64 en] 89))) := belA _ hb5
              have HX6 := hide (bBel (unhide HW6) (unhide HX4))
              have HT6 := hide (bN #[.slice o1 o.length c1, .slice o2 o.length c2, .int .i64 en] 89 (w := w5) rfl)
              have HOV := hide ((own_mono hov (Nat.zero_le _)).alloc (.cells #[.slice o1 o.length c1, .slice o2 o.length c2, .int .i64 en] 89))
              have HTV := hide ((own_mono htv (Nat.zero_le _)).alloc (.cells #[.slice o1 o.length c1, .slice o2 o.length c2, .int .i64 en] 89))
              have HTS := hide hts
              have HFB := hide hfb
              clear hnone hsome hb5 hbf HF3 HMO hov htv hbo hbc hbl hbi hbe hg hall hsome0 hts hml hfb ho hf hen q0 q1 q2 q3 HX4 HPS4 HW6
              simp only [Option.isSome_some]
              go_upto_region 10 with fail
              obtain ⟨bb, hbb⟩ : ∃ bb, bb = w5.heap.size := ⟨_, rfl⟩
              rw [← hbb] at HT6 ⊢
              clear hbb
              generalize w5.alloc (.cells #[.slice o1 o.length c1, .slice o2 o.length c2, .int .i64 en] 89) = w6 at *
              have q0 : w6.cell? ⟨pb, 0, none⟩ = some (.int .i64 (J : Int)) := blk_cell (unhide HX6) 0
              have q1 : w6.cell? ⟨pb, 1, none⟩ = some (.int .i64 (K : Int)) := blk_cell (unhide HX6) 1
              have q2 : w6.cell? ⟨pb, 2, none⟩ = some (.int .i64 (D : Int)) := blk_cell (unhide HX6) 2
              have q3 : w6.cell? ⟨pb, 3, none⟩ = some (.slice ao ps.length capv) := blk_cell (unhide HX6) 3
              have z0 : w6.cell? ⟨bb, 0, none⟩ = some (.slice o1 o.length c1) := blk_cell (unhide HT6) 0
              have z1 : w6.cell? ⟨bb, 1, none⟩ = some (.slice o2 o.length c2) := blk_cell (unhide HT6) 1
              have z2 : w6.cell? ⟨bb, 2, none⟩ = some (.int .i64 en) := blk_cell (unhide HT6) 2
              have HWRT : Hid (Calls Tryd.prog 35 #[.agg #[.int .i64 (J : Int), .int .i64 (K : Int), .int .i64 (D : Int), .slice ao ps.length capv], .agg #[.slice o1 o.length c1, .slice o2 o.length c2, .int .i64 en]] w6
                  fun e w' => e = .returned (.string ⟨(Hx.writeF J ps.length (Hx.pairs o f)).toArray⟩) ∧ Below w6.heap.size w6 w') := by
                have hg := unhide HG
                have hle := hg.le
                exact write_any J K D ps.length ao capv _ _ en o f w6 (unhide HOV) (unhide HTV) hop hol hg.pos (by omega) (unhide HTS) (unhide HFB) hg.j ((unhide HP).below (unhide HB6))
              clear HG HX6 HT6 HOV HTV HTS HFB
              go_wp2_with fail
              refine (unhide HWRT).mono ?_
              rintro e w7 ⟨rfl, hb7⟩
              have HB7 := hide (belB hb7 (unhide HB6))
              clear hb7
              go_wp2_with fail
              go_returns
              exact ⟨by rw [unhide HF]; rfl, unhide HB7⟩

end Go.Proofs.YtppcnlkhdgmaiaaDoor
namespace Go.Proofs.YtppcnlkhdgmaiaaDoor
open Go.RowKit

/-- What Plan wants of memory: the table of bytes, and the library's powers of ten. -/
def PlE (w : World) : Prop := Tab w ∧ P10 w
theorem lasts_ple : Lasts PlE := fun _ _ h hb => ⟨h.1.below hb, h.2.below hb⟩

abbrev pxB1 : ByteArray := ⟨#[106, 49, 107, 49, 100, 57, 57, 59, 97, 61, 50, 45, 51, 126, 53, 45, 57, 126, 52, 45, 52, 59, 98, 61, 49, 45, 49]⟩
abbrev pxB2 : ByteArray := ⟨#[106, 48, 107, 48, 100, 56, 59, 97, 61, 50, 45, 51, 44, 49, 45, 49, 59, 98, 61, 52, 45, 52]⟩
set_option maxRecDepth 100000 in
theorem Hx.plannedx1 : Hx.planF pxB1 9 = ([106, 49, 59, 97, 48, 64, 48, 43, 50, 45, 51, 62, 48, 59, 98, 48, 64, 52, 43, 49, 45, 49, 59, 97, 49, 64, 57, 43, 52, 45, 52, 60, 48, 58, 53, 45, 57], true, 0) := by decide +kernel
set_option maxRecDepth 100000 in
theorem Hx.plannedx2 : Hx.planF pxB2 1 = ([106, 48, 59, 97, 48, 64, 48, 43, 50, 45, 51, 59, 97, 49, 64, 51, 43, 49, 45, 49, 59, 98, 48, 64, 52, 43, 52, 45, 52], false, 0) := by decide +kernel
theorem plan_px1 (w : World) (h : PlE w) : Calls Tryd.prog 16 #[.string pxB1, .int .i64 9] w fun e w' => e = .returned (.tuple #[.string ⟨#[106, 49, 59, 97, 48, 64, 48, 43, 50, 45, 51, 62, 48, 59, 98, 48, 64, 52, 43, 49, 45, 49, 59, 97, 49, 64, 57, 43, 52, 45, 52, 60, 48, 58, 53, 45, 57]⟩, .bool true, .int .i64 0]) ∧ Below w.heap.size w w' := by
  have := plan_any pxB1 9 w (by decide) h.1 h.2
  rw [Hx.plannedx1] at this
  exact this
theorem plan_px2 (w : World) (h : PlE w) : Calls Tryd.prog 16 #[.string pxB2, .int .i64 1] w fun e w' => e = .returned (.tuple #[.string ⟨#[106, 48, 59, 97, 48, 64, 48, 43, 50, 45, 51, 59, 97, 49, 64, 51, 43, 49, 45, 49, 59, 98, 48, 64, 52, 43, 52, 45, 52]⟩, .bool false, .int .i64 0]) ∧ Below w.heap.size w w' := by
  have := plan_any pxB2 1 w (by decide) h.1 h.2
  rw [Hx.plannedx2] at this
  exact this

set_option maxRecDepth 100000 in
set_option maxHeartbeats 1000000 in
theorem planned_ple (w : World) (h : PlE w) : Calls Tryd.prog 11 #[] w fun e w' => e = .returned (.bool true) ∧ Below w.heap.size w w' := by
  have HR1 := hide (plan_px1 w h)
  have HE := hide h
  clear h
  go_enter Tryd.func11, Tryd.ntmps11
  go_wp2_with fail
  refine (unhide HR1).mono ?_
  rintro e w1 ⟨rfl, hb1⟩
  have HE1 := hide (lasts_ple _ _ (unhide HE) hb1)
  have HB1 := hide hb1
  clear hb1
  go_wp2_with fail
  refine (plan_px2 w1 (unhide HE1)).mono ?_
  rintro e w2 ⟨rfl, hb2⟩
  have HB2 := hide ((unhide HB1).trans (hb2.mono (unhide HB1).size))
  clear hb2
  go_wp2_with fail
  go_returns
  exact ⟨rfl, unhide HB2⟩

end Go.Proofs.YtppcnlkhdgmaiaaDoor
namespace Go.Proofs.YtppcnlkhdgmaiaaDoor
open Go.ChangeShapes Go.WideShapes Go.ChangeAt Go.RowKit Go.Deep

theorem cellsRaw : Tryd.prog.cellsOf 72 = 5 := by kernel_rfl
theorem cellsRaws : Tryd.prog.cellsOf 70 = 1 := by kernel_rfl
theorem cellsRows : Tryd.prog.cellsOf 22 = 1 := by kernel_rfl
theorem cellsShape : Tryd.prog.cellsOf 24 = 4 := by kernel_rfl
theorem i64_wf {n : Int} (h : (Lit.int .i64 n).wf = true) : I64 n := by
  unfold I64
  simp [Lit.wf] at h
  first | exact h | (have := h; constructor <;> omega)
theorem addr_at {b off k : Nat} (j : Nat) : ((⟨b, off, none⟩ : Addr).add k).add j = ⟨b, off + k + j, none⟩ := by
  rw [add_add]
  unfold Addr.add
  split
  · have h : k + j = 0 := by assumption
    have e1 : k = 0 := by omega
    have e2 : j = 0 := by omega
    rw [e1, e2]; rfl
  · simp only [Nat.add_assoc]
instance : Inhabited Hx.Raw := ⟨⟨0, 0, 0, 0, 0⟩⟩

set_option maxRecDepth 100000 in
theorem raw_open {H : Type} {enc : TypeId × Value → H} {W : World} {b off i n : Nat} {cs : List Value} {x : DataW H × List MemPlace} {spare : Nat → Bool} {held : Bool}
    (h1 : W.cells? 0 ((⟨b, off, none⟩ : Addr).add (i * Tryd.prog.cellsOf 72)) (Tryd.prog.cellsOf 72) = some cs) (h2 : DataW.trod enc Tryd.prog W 0 spare held n 72 cs = some x) :
    ∃ r : Hx.Raw, RawOk r ∧ ∀ t, t < 5 → W.cell? ⟨b, off + (i * 5 + t), none⟩ = (rawCells r)[t]? := by
  rw [cellsRaw] at h1
  obtain ⟨_, hlen, hcell⟩ := World.cells?_some h1
  obtain ⟨xs, k, _, _, _, hxl, hf⟩ := DataW.trod_struct Tryd.underlying72 h2
  match cs, hlen with
  | [v0, v1, v2, v3, v4], _ =>
    have g0 := hf 0 _ rfl
    have g1 := hf 1 _ rfl
    have g2 := hf 2 _ rfl
    have g3 := hf 3 _ rfl
    have g4 := hf 4 _ rfl
    match xs, hxl with
    | [y0, y1, y2, y3, y4], _ =>
      simp [cells3] at g0 g1 g2 g3 g4
      obtain ⟨q0, e0, _, w0⟩ := DataW.trod_int Tryd.underlying3 g0
      obtain ⟨q1, e1, _, w1⟩ := DataW.trod_int Tryd.underlying3 g1
      obtain ⟨q2, e2, _, w2⟩ := DataW.trod_int Tryd.underlying3 g2
      obtain ⟨q3, e3, _, w3⟩ := DataW.trod_int Tryd.underlying3 g3
      obtain ⟨q4, e4, _, w4⟩ := DataW.trod_int Tryd.underlying3 g4
      simp at e0 e1 e2 e3 e4
      subst e0 e1 e2 e3 e4
      refine ⟨⟨q0, q1, q2, q3, q4⟩, ⟨i64_wf w0, i64_wf w1, i64_wf w2, i64_wf w3, i64_wf w4⟩, fun t ht => ?_⟩
      have c := hcell t (by omega)
      rw [addr_at, Nat.add_assoc] at c
      rw [c]
      rfl
theorem spot_none {W : World} {b off n : Nat} {spot : Option _} {cs : List Value} (hn : 0 < n) (h : W.cells? 0 ((⟨b, off, spot⟩ : Addr).add (0 * n)) n = some cs) : spot = none := by
  have hc := (World.cells?_some h).2.2 0 hn
  have hcl := (World.cells?_some h).2.1
  obtain ⟨u, hu⟩ : ∃ u, cs[0]? = some u := ⟨cs[0], List.getElem?_eq_getElem (by omega)⟩
  rw [hu] at hc
  simpa [Addr.add] using World.cell?_spot hc
theorem map_at {α : Type} {f : Nat → α} {n i : Nat} {x : α} (h : ((List.range n).map f)[i]? = some x) : i < n ∧ x = f i := by
  rw [List.getElem?_map] at h
  by_cases hi : i < n
  · rw [List.getElem?_range hi] at h
    exact ⟨hi, (Option.some.inj h).symm⟩
  · rw [List.getElem?_eq_none (by simpa using hi)] at h
    cases h
theorem row_open {H : Type} {enc : TypeId × Value → H} {W : World} {fuel : Nat} {cs : List Value} {x : DataW H × List MemPlace} {held : Bool}
    (h : DataW.trod enc Tryd.prog W 0 (fun _ => true) held fuel 70 cs = some x) : ∃ v q, cs = [v] ∧ RowR W v q := by
  rcases open_slice Tryd.underlying70 h with ⟨hcs, _⟩ | ⟨a, len, cap, m, n, D, Pl, hcs, _, hl, hm, hmm, _, hx⟩
  · exact ⟨_, [], hcs, none, 0, rfl, Nat.zero_le _, fun i x hx => by simp at hx⟩
  · simp at hmm
    subst hmm
    obtain ⟨b, off, spot⟩ := a
    by_cases hz : len = 0
    · subst hz
      exact ⟨_, [], hcs, _, _, rfl, Nat.zero_le _, fun i x hx => by simp at hx⟩
    · obtain ⟨cs0, g0, _⟩ := hx 0 (by omega)
      have hsp := spot_none (by rw [cellsRaw]; omega) g0
      subst hsp
      obtain ⟨f, hf⟩ := choose_lt (n := len) (fun i hi => by
        obtain ⟨cs', g1, g2⟩ := hx i (by omega)
        exact raw_open g1 g2)
      refine ⟨_, (List.range len).map f, hcs, some ⟨b, off, none⟩, m, by simp, by simp; omega, fun i r hi => ?_⟩
      obtain ⟨hi', rfl⟩ := map_at hi
      exact ⟨(hf i hi').1, b, off, rfl, (hf i hi').2⟩
theorem rows_open {H : Type} {enc : TypeId × Value → H} {W : World} {fuel : Nat} {cs : List Value} {x : DataW H × List MemPlace} {held : Bool}
    (h : DataW.trod enc Tryd.prog W 0 (fun _ => true) held fuel 22 cs = some x) : ∃ v qs, cs = [v] ∧ RowsR W v qs := by
  rcases open_slice Tryd.underlying22 h with ⟨hcs, _⟩ | ⟨a, len, cap, m, n, D, Pl, hcs, _, hl, hm, hmm, _, hx⟩
  · exact ⟨_, [], hcs, none, 0, rfl, Nat.zero_le _, fun i x hx => by simp at hx⟩
  · simp at hmm
    subst hmm
    obtain ⟨b, off, spot⟩ := a
    by_cases hz : len = 0
    · subst hz
      exact ⟨_, [], hcs, _, _, rfl, Nat.zero_le _, fun i x hx => by simp at hx⟩
    · obtain ⟨cs0, g0, _⟩ := hx 0 (by omega)
      have hsp := spot_none (by rw [cellsRaws]; omega) g0
      subst hsp
      obtain ⟨f, hf⟩ := choose_lt (n := len) (p := fun i (q : List Hx.Raw) => ∃ u, W.cell? ⟨b, off + i, none⟩ = some u ∧ RowR W u q) (fun i hi => by
        obtain ⟨cs', g1, g2⟩ := hx i (by omega)
        rw [cellsRaws, Nat.mul_one] at g1
        obtain ⟨u, q, rfl, hr⟩ := row_open g2
        have c := (World.cells?_some g1).2.2 0 (by omega)
        rw [addr_at] at c
        exact ⟨q, u, c, hr⟩)
      refine ⟨_, (List.range len).map f, hcs, some ⟨b, off, none⟩, m, by simp, by simp; omega, fun i q hi => ?_⟩
      obtain ⟨hi', rfl⟩ := map_at hi
      obtain ⟨u, c, hr⟩ := hf i hi'
      exact ⟨b, off, u, rfl, c, hr⟩
set_option maxRecDepth 100000 in
/-- A shape that comes in. -/
theorem shape_open {H : Type} {enc : TypeId × Value → H} {W : World} {base : Nat} {v : Value} {d : DataW H} {p : List MemPlace} {held : Bool} (hv : Value.okWide Tryd.prog W .any base 24 v)
    (h : DataW.Trod enc Tryd.prog W 0 (fun _ => true) held 24 v d p) : ∃ sJ sK sD sv qs, v = .agg #[.int .i64 sJ, .int .i64 sK, .int .i64 sD, sv] ∧ I64 sJ ∧ I64 sK ∧ I64 sD ∧ RowsR W sv qs := by
  obtain ⟨cs, rfl, hsz⟩ := okWide_struct Tryd.underlying24 hv
  rw [cellsShape] at hsz
  obtain ⟨fuel, hf⟩ := h
  obtain ⟨xs, k, _, _, _, hxl, hx⟩ := DataW.trod_struct Tryd.underlying24 hf
  obtain ⟨l⟩ := cs
  match l, hsz with
  | [v0, v1, v2, v3], _ =>
    have g0 := hx 0 _ rfl
    have g1 := hx 1 _ rfl
    have g2 := hx 2 _ rfl
    have g3 := hx 3 _ rfl
    match xs, hxl with
    | [y0, y1, y2, y3], _ =>
      simp [cells3, cellsRows, Value.cells] at g0 g1 g2 g3
      obtain ⟨q0, e0, _, w0⟩ := DataW.trod_int Tryd.underlying3 g0
      obtain ⟨q1, e1, _, w1⟩ := DataW.trod_int Tryd.underlying3 g1
      obtain ⟨q2, e2, _, w2⟩ := DataW.trod_int Tryd.underlying3 g2
      obtain ⟨u, qs, e3, hr⟩ := rows_open g3
      simp at e0 e1 e2 e3
      subst e0 e1 e2 e3
      exact ⟨q0, q1, q2, _, qs, rfl, i64_wf w0, i64_wf w1, i64_wf w2, hr⟩
theorem gPow : Tryd.prog.globalNamed "internal/strconv.uint64pow10" = some 2 := by kernel_rfl
theorem gPowType : (Tryd.prog.globals[2]?).map (·.type) = some 198 := by kernel_rfl
theorem cellsPow : Tryd.prog.cellsOf 198 = 20 := by kernel_rfl
theorem cellsPow1 : Tryd.prog.cellsOf 185 = 1 := by kernel_rfl
set_option maxRecDepth 100000 in
theorem plan_table {L : List (String × DataW Unit)} {W : World} (h0 : laidMet Tryd.prog L W)
    (e1 : L.filter (fun x => x.1 == "hatch/hatch.byteKinds") = [("hatch/hatch.byteKinds", Lib.tabData .u8 tabNums)])
    (e3 : L.filter (fun x => x.1 == "internal/strconv.uint64pow10") = [("internal/strconv.uint64pow10", Lib.tabData .u64 Lib.pow10Tab)]) : PlE W := by
  refine ⟨?_, ?_⟩
  · have h00 := h0.filter (fun x => x.1 == "hatch/hatch.byteKinds")
    rw [e1] at h00
    have h1 : Lib.TabIs Tryd.prog W "hatch/hatch.byteKinds" .u8 tabNums := Lib.tabIs_of_head (rest := []) gTab gTabType Tryd.underlying189 Tryd.underlying5 cellsU8 cells189 h00
    intro i hi
    have h2 := h1.cell gTab i (by simpa [tabNums] using hi)
    rw [tabNums_kind i hi] at h2
    exact h2
  · have h00 := h0.filter (fun x => x.1 == "internal/strconv.uint64pow10")
    rw [e3] at h00
    exact Lib.tabIs_of_head (rest := []) gPow gPowType Tryd.underlying198 Tryd.underlying185 cellsPow1 cellsPow h00
end Go.Proofs.YtppcnlkhdgmaiaaDoor
namespace Go.Proofs.YtppcnlkhdgmaiaaDoor
namespace Hx

/-- What a timetable is, as a table. -/
def tStp (t : Trn) (T : Int) (st : List Int) : TStp :=
  ⟨t.pl, t.no, t.x.lo, t.x.hi, t.x.rest, if t.x.rest then t.x.mn else 0, if t.x.rest then t.x.mx else 0, T.toNat, if t.x.rest then st.getD t.pl 0 else -1, if t.beg then (lowF (sOut t st) : Int) else -1⟩
def tabOf : List (Trn × Int) → List Int → List TStp
  | [], _ => []
  | (t, T) :: l, st => tStp t T st :: tabOf l (sIn t (sOut t st))
/-- A step that can be written and read. -/
structure WOk (t : Trn) (T : Int) (st : List Int) : Prop where
  pl : t.pl < 4
  no : t.no < 10
  lo : t.x.lo < 1000
  hi : t.x.hi < 1000
  mn : t.x.mn < 1000
  mx : t.x.mx < 1000
  t0 : 0 ≤ T
  t1 : T < 100000
  out : t.x.rest = true → 0 ≤ st.getD t.pl 0 ∧ st.getD t.pl 0 ≤ 9
  low : lowF (sOut t st) ≤ 9
theorem Tl.digit {s : ByteArray} {p n : Nat} {r : List UInt8} (h : Tl s p (Lib.itoa (n : Int) ++ r)) (hn : n ≤ 9) : oneF s 48 57 ⟨p, false⟩ = (n, ⟨p + 1, false⟩) ∧ Tl s (p + 1) r := by
  rw [itoa_nat, Lib.decDigits_one (by omega)] at h
  have hb := ofNat_toNat (n := 48 + n) (by omega)
  obtain ⟨e, t⟩ := Tl.one (lo := 48) (hi := 57) h (by omega) (by omega)
  refine ⟨?_, t⟩
  rw [e, hb]
  simp
theorem Tl.nextYes {s : ByteArray} {p c : Nat} {b : UInt8} {r : List UInt8} (h : Tl s p (b :: r)) (hc : b.toNat = c) : nextF s c ⟨p, false⟩ = (true, ⟨p + 1, false⟩) ∧ Tl s (p + 1) r :=
  ⟨nextF_yes (by rw [h.byte, hc]), h.next⟩
/-- What follows does not begin with this sign. -/
def noSign (c : Nat) (r : List UInt8) : Prop := ∀ b, r[0]? = some b → b.toNat ≠ c
theorem Tl.nextNo {s : ByteArray} {p c : Nat} {r : List UInt8} (h : Tl s p r) (hc : noSign c r) (h256 : c ≠ 256) : nextF s c ⟨p, false⟩ = (false, ⟨p, false⟩) := by
  refine nextF_no ?_
  rintro ⟨_, hb⟩
  have hb : byteAt s p = c := hb
  cases r with
  | nil => rw [h.none] at hb; exact h256 hb.symm
  | cons b r => rw [h.byte] at hb; exact hc b rfl hb
theorem ends_no {r : List UInt8} (h : ends r) {c : Nat} (hc : c ≠ 59) : noSign c r := fun b hb e => by
  rw [h b hb] at e
  exact hc e.symm
theorem into_read {s : ByteArray} {p : Nat} {t : Trn} {st : List Int} {r : List UInt8} (hr : ends r) (hl : lowF st ≤ 9) (h : Tl s p (wIn t st ++ r)) :
    ∃ q, tintoF s ⟨p, false⟩ = ((if t.beg then (lowF st : Int) else -1), ⟨q, false⟩) ∧ Tl s q r := by
  unfold wIn at h
  cases hb : t.beg with
  | true =>
    rw [hb, if_pos rfl, List.append_assoc] at h
    obtain ⟨e1, t1⟩ := Tl.nextYes (b := 62) (c := 62) h (by rfl)
    obtain ⟨e2, t2⟩ := t1.digit hl
    refine ⟨_, ?_, t2⟩
    simp only [tintoF, e1, e2, if_true]
  | false =>
    rw [hb] at h
    have h' : Tl s p r := h
    have e1 := h'.nextNo (c := 62) (ends_no hr (by omega)) (by omega)
    refine ⟨p, ?_, h'⟩
    simp [tintoF, e1]
theorem wIn_dig {t : Trn} {st : List Int} {r : List UInt8} (hr : ends r) : noDig (wIn t st ++ r) := by
  unfold wIn
  split
  · exact noDig_cons (by decide)
  · exact ends_dig hr
theorem wIn_no {t : Trn} {st : List Int} {r : List UInt8} (hr : ends r) : noSign 60 (wIn t st ++ r) := by
  unfold wIn
  split
  · intro b hb
    simp at hb
    subst hb
    decide
  · exact ends_no hr (by omega)
theorem wOut_dig {t : Trn} {st : List Int} {r : List UInt8} (hr : noDig r) : noDig (wOut t st ++ r) := by
  unfold wOut
  split
  · exact noDig_cons (by decide)
  · exact hr
theorem out_read {s : ByteArray} {p : Nat} {t : Trn} {st : List Int} {r : List UInt8} (hd : noDig r) (hn : noSign 60 r) (h1 : t.x.mn < 1000) (h2 : t.x.mx < 1000) (ho : t.x.rest = true → 0 ≤ st.getD t.pl 0 ∧ st.getD t.pl 0 ≤ 9) (h : Tl s p (wOut t st ++ r)) :
    ∃ q, trestF s ⟨p, false⟩ = ((t.x.rest, (if t.x.rest then st.getD t.pl 0 else -1), (if t.x.rest then t.x.mn else 0), (if t.x.rest then t.x.mx else 0)), ⟨q, false⟩) ∧ Tl s q r := by
  unfold wOut at h
  cases hb : t.x.rest with
  | true =>
    obtain ⟨o1, o2⟩ := ho hb
    obtain ⟨z, hz⟩ : ∃ z : Nat, st.getD t.pl 0 = (z : Int) := ⟨(st.getD t.pl 0).toNat, by omega⟩
    rw [hz] at o2 ⊢
    have h' : Tl s p (60 :: (Lib.itoa (z : Int) ++ (58 :: (Lib.itoa (t.x.mn : Int) ++ (45 :: (Lib.itoa (t.x.mx : Int) ++ r)))))) := by
      rw [hb, if_pos rfl, hz] at h
      have e : [60] ++ Lib.itoa (z : Int) ++ [58] ++ bndB t.x.mn t.x.mx ++ r = 60 :: (Lib.itoa (z : Int) ++ (58 :: (Lib.itoa (t.x.mn : Int) ++ (45 :: (Lib.itoa (t.x.mx : Int) ++ r))))) := by simp [bndB]
      rw [← e]; exact h
    obtain ⟨e1, t1⟩ := h'.nextYes (c := 60) (by rfl)
    obtain ⟨e2, t2⟩ := t1.digit (by omega)
    obtain ⟨e3, t3⟩ := t2.take (c := 58) (by rfl)
    obtain ⟨e4, t4⟩ := t3.num (k := 2) (noDig_cons (by decide)) h1
    obtain ⟨e5, t5⟩ := t4.take (c := 45) (by rfl)
    obtain ⟨e6, t6⟩ := t5.num (k := 2) hd h2
    refine ⟨_, ?_, t6⟩
    simp only [trestF, e1, e2, if_true, e3, e4, e5, e6]
  | false =>
    rw [hb] at h
    have h' : Tl s p r := h
    have e1 := h'.nextNo hn (by omega)
    refine ⟨p, ?_, h'⟩
    simp [trestF, e1]
theorem step_read {s : ByteArray} {p : Nat} {t : Trn} {T : Int} {st : List Int} {r : List UInt8} (hr : ends r) (hw : WOk t T st) (h : Tl s p (wHead t T ++ wOut t st ++ wIn t (sOut t st) ++ r)) :
    ∃ q, tstepF s ⟨p, false⟩ = (tStp t T st, ⟨q, false⟩) ∧ Tl s q r := by
  obtain ⟨z, hz⟩ : ∃ z : Nat, T = (z : Int) := ⟨T.toNat, by have := hw.t0; omega⟩
  have hz5 : z < 100000 := by have := hw.t1; omega
  have h' : Tl s p (59 :: UInt8.ofNat (97 + t.pl) :: UInt8.ofNat (48 + t.no) :: 64 :: (Lib.itoa (z : Int) ++ (43 :: (Lib.itoa (t.x.lo : Int) ++ (45 :: (Lib.itoa (t.x.hi : Int) ++ (wOut t st ++ (wIn t (sOut t st) ++ r)))))))) := by
    have e : wHead t T ++ wOut t st ++ wIn t (sOut t st) ++ r = 59 :: UInt8.ofNat (97 + t.pl) :: UInt8.ofNat (48 + t.no) :: 64 :: (Lib.itoa (z : Int) ++ (43 :: (Lib.itoa (t.x.lo : Int) ++ (45 :: (Lib.itoa (t.x.hi : Int) ++ (wOut t st ++ (wIn t (sOut t st) ++ r))))))) := by
      rw [hz]
      simp [wHead, bndB, nameB]
    rw [← e]; exact h
  have p1 := hw.pl
  have p2 := hw.no
  have b1 := ofNat_toNat (n := 97 + t.pl) (by omega)
  have b2 := ofNat_toNat (n := 48 + t.no) (by omega)
  obtain ⟨e1, t1⟩ := h'.take (c := 59) (by rfl)
  obtain ⟨e2, t2⟩ := t1.one (lo := 97) (hi := 100) (by omega) (by omega)
  obtain ⟨e3, t3⟩ := t2.one (lo := 48) (hi := 57) (by omega) (by omega)
  obtain ⟨e4, t4⟩ := t3.take (c := 64) (by rfl)
  obtain ⟨e5, t5⟩ := t4.num (k := 4) (noDig_cons (by decide)) hz5
  obtain ⟨e6, t6⟩ := t5.take (c := 43) (by rfl)
  obtain ⟨e7, t7⟩ := t6.num (k := 2) (noDig_cons (by decide)) hw.lo
  obtain ⟨e8, t8⟩ := t7.take (c := 45) (by rfl)
  obtain ⟨e9, t9⟩ := t8.num (k := 2) (wOut_dig (wIn_dig hr)) hw.hi
  obtain ⟨q1, e10, t10⟩ := out_read (wIn_dig hr) (wIn_no hr) hw.mn hw.mx hw.out t9
  obtain ⟨q2, e11, t11⟩ := into_read hr hw.low t10
  refine ⟨q2, ?_, t11⟩
  unfold tstepF
  simp only [e1, e2, e3, e4, e5, e6, e7, e8, e9, e10, e11]
  unfold tStp
  rw [b1, b2, hz]
  simp
/-- All steps can be written and read. -/
def WAll : List (Trn × Int) → List Int → Prop
  | [], _ => True
  | (t, T) :: l, st => WOk t T st ∧ WAll l (sIn t (sOut t st))
theorem wAll_ends (l : List (Trn × Int)) (st : List Int) : ends (wAll l st) := by
  cases l with
  | nil => intro b hb; simp [wAll] at hb
  | cons a l =>
    obtain ⟨t, T⟩ := a
    intro b hb
    simp [wAll, wHead] at hb
    exact hb.symm
theorem all_read {s : ByteArray} : ∀ (l : List (Trn × Int)) (st : List Int) (acc : List TStp) (p : Nat), WAll l st → Tl s p (wAll l st) → ∃ q, tablesF s ⟨p, false⟩ acc = (⟨q, false⟩, acc ++ tabOf l st)
  | [], st, acc, p, _, h => by
    have h0 : Tl s p [] := h
    have := h0.ge
    exact ⟨p, by rw [tablesF_end (by simp only; omega)]; simp [tabOf]⟩
  | (t, T) :: l, st, acc, p, hw, h => by
    obtain ⟨h1, h2⟩ := hw
    obtain ⟨q, e1, t1⟩ := step_read (wAll_ends l _) h1 h
    have hlt : p < s.size := by
      refine Tl.lt (b := 59) (r := ((nameB t.pl t.no).data.toList ++ [64] ++ Lib.itoa T ++ [43] ++ bndB t.x.lo t.x.hi) ++ wOut t st ++ wIn t (sOut t st) ++ wAll l (sIn t (sOut t st))) ?_
      have e : wAll ((t, T) :: l) st = 59 :: (((nameB t.pl t.no).data.toList ++ [64] ++ Lib.itoa T ++ [43] ++ bndB t.x.lo t.x.hi) ++ wOut t st ++ wIn t (sOut t st) ++ wAll l (sIn t (sOut t st))) := by simp [wAll, wHead]
      rw [← e]; exact h
    obtain ⟨q2, e2⟩ := all_read l (sIn t (sOut t st)) (acc ++ [tStp t T st]) q h2 t1
    exact ⟨q2, by rw [tablesF_more rfl hlt, e1, e2]; simp [tabOf]⟩
/-- A timetable is read as what it was written of. -/
theorem write_read {J n : Nat} (hJ : J < 10) {l : List (Trn × Int)} (hw : WAll l (List.replicate n (-1))) {s : ByteArray} (hs : s = ⟨(writeF J n l).toArray⟩) :
    (theadF s).1 = J ∧ (tableF s).1.bad = false ∧ (tableF s).2 = tabOf l (List.replicate n (-1)) := by
  have h := Tl.start (writeF J n l)
  rw [← hs] at h
  have h' : Tl s 0 (106 :: (Lib.itoa (J : Int) ++ wAll l (List.replicate n (-1)))) := by
    have e : writeF J n l = 106 :: (Lib.itoa (J : Int) ++ wAll l (List.replicate n (-1))) := by simp [writeF]
    rw [← e]; exact h
  obtain ⟨e1, t1⟩ := h'.take (c := 106) (by rfl)
  obtain ⟨e2, t2⟩ := t1.num (k := 0) (ends_dig (wAll_ends _ _)) (by simpa using hJ)
  have j : theadF s = (J, ⟨0 + 1 + Lib.nDigits J, false⟩) := by unfold theadF; rw [e1, e2]
  obtain ⟨q, e3⟩ := all_read l _ [] _ hw t2
  refine ⟨by rw [j], ?_, ?_⟩
  · unfold tableF; rw [j]; dsimp only; rw [e3]
  · unfold tableF; rw [j]; dsimp only; rw [e3]; rfl
end Hx
end Go.Proofs.YtppcnlkhdgmaiaaDoor
namespace Go.Proofs.YtppcnlkhdgmaiaaDoor
open Go.RowKit

def Hx.updM (M : Nat → Nat → Int) (i j : Nat) (v : Int) : Nat → Nat → Int := fun a b => if a = i ∧ b = j then v else M a b

/-- The first m rows of a table of N columns. -/
structure Mtx (base N m : Nat) (fv : Value) (g : Nat → Nat) (M : Nat → Nat → Int) (w : World) : Prop where
  far : w.ownsRow base 49 1 fv m ((List.range m).map fun i => .slice (some ⟨g i, 0, none⟩) N N)
  row : ∀ i, i < m → w.ownsRow base 3 1 (.slice (some ⟨g i, 0, none⟩) N N) N (intCells N (M i))
  inj : ∀ i j, i < m → j < m → g i = g j → i = j

theorem Mtx.nil (base N : Nat) (M : Nat → Nat → Int) (w : World) : Mtx base N 0 (.slice none 0 0) (fun _ => 0) M w :=
  ⟨World.ownsRow_nil _ _ _ _, fun _ h => absurd h (Nat.not_lt_zero _), fun _ _ h => absurd h (Nat.not_lt_zero _)⟩
theorem Mtx.below {base N m fv g M w w'} (hb : Below w.heap.size w w') (h : Mtx base N m fv g M w) : Mtx base N m fv g M w' :=
  ⟨own_below h.far hb, fun i hi => own_below (h.row i hi) hb, h.inj⟩
theorem Mtx.drewN {base N m fv g M w} (n : Nat) (h : Mtx base N m fv g M w) : Mtx base N m fv g M (w.drewN n) := h.below (below_drewN (Below.refl _ _) n)
theorem Mtx.alloc {base N m fv g M w} (o : Obj) (h : Mtx base N m fv g M w) : Mtx base N m fv g M (w.alloc o) := h.below ((Below.refl _ _).alloc (Nat.le_refl _) o)
theorem Mtx.same {base N m fv g M M' w} (h : Mtx base N m fv g M w) (he : ∀ a b, a < m → b < N → M a b = M' a b) : Mtx base N m fv g M' w := by
  refine ⟨h.far, fun i hi => ?_, h.inj⟩
  have e : intCells N (M i) = intCells N (M' i) := by
    unfold intCells
    apply List.map_congr_left
    intro b hb
    rw [he i b hi (List.mem_range.1 hb)]
  rw [← e]
  exact h.row i hi
theorem Mtx.cell {base N m fv g M w} (h : Mtx base N m fv g M w) {i j : Nat} (hi : i < m) (hj : j < N) : w.cell? ⟨g i, j, none⟩ = some (.int .i64 (M i j)) := by
  rw [(h.row i hi).cellAt j (by omega)]
  exact intCells_at hj
theorem Mtx.fz {base N m fv g M w} (h : Mtx base N m fv g M w) {i : Nat} (hi : i < m) (j : Nat) : w.frozen? ⟨g i, j, none⟩ = false := (h.row i hi).frozenAt j
theorem Mtx.slot {base N m fb cap g M w} (h : Mtx base N m (.slice (some ⟨fb, 0, none⟩) m cap) g M w) {i : Nat} (hi : i < m) : w.cell? ⟨fb, i, none⟩ = some (.slice (some ⟨g i, 0, none⟩) N N) := by
  rw [h.far.cellAt i (by omega)]
  simp [hi]
theorem Mtx.ge {base N m fv g M w} (h : Mtx base N m fv g M w) {i : Nat} (hi : i < m) : base ≤ g i ∧ g i < w.heap.size := (h.row i hi).lt (g i) rfl
theorem Mtx.ne {base N m fb cap g M w} (h : Mtx base N m (.slice (some ⟨fb, 0, none⟩) m cap) g M w) {i : Nat} (hi : i < m) : fb ≠ g i := by
  have := own_apart h.far (h.row i hi) (by decide)
  intro e
  subst e
  rcases this with h | h
  · cases h
  · exact h rfl
/-- One number is stored. -/
theorem Mtx.put {base N m fv g M w} (h : Mtx base N m fv g M w) {i : Nat} (hi : i < m) (j : Nat) (v : Int) : Mtx base N m fv g (Hx.updM M i j v) (w.setCell ⟨g i, j, none⟩ (.int .i64 v)) := by
  have hg := grown_set w (g i) j (.int .i64 v)
  refine ⟨h.far.kept hg (own_apart h.far (h.row i hi) (by decide)), fun a ha => ?_, h.inj⟩
  by_cases e : a = i
  · subst e
    have h1 := ((h.row a ha).stored j (.int .i64 v)).1
    rw [intCells_set] at h1
    have e2 : Hx.updM M a j v a = Hx.updT (M a) j v := by
      funext b
      simp [Hx.updM, Hx.updT]
    rw [e2]
    exact h1
  · have e2 : Hx.updM M i j v a = M a := by
      funext b
      simp [Hx.updM, e]
    rw [e2]
    exact (h.row a ha).kept hg (Or.inr (fun e3 => e (h.inj a i ha hi (Option.some.inj e3))))
theorem Mtx.grown {base N m fv g M w w'} (hg : w.grownBy w' none) (h : Mtx base N m fv g M w) : Mtx base N m fv g M w' := by
  refine ⟨h.far.kept hg ?_, fun i hi => (h.row i hi).kept hg (Or.inr (by intro e; cases e)), h.inj⟩
  cases fv.ownBlock
  · exact Or.inl rfl
  · exact Or.inr (by intro e; cases e)
/-- A store into a row that is not of the table. -/
theorem Mtx.aside {base N m fv g M w r xs} (h : Mtx base N m fv g M w) (hr : w.ownsRow base 3 1 (.slice (some ⟨r, 0, none⟩) N N) N xs) (hne : ∀ i, i < m → g i ≠ r) (j : Nat) (v : Value) : Mtx base N m fv g M (w.setCell ⟨r, j, none⟩ v) := by
  have hg := grown_set w r j v
  exact ⟨h.far.kept hg (own_apart h.far hr (by decide)), fun i hi => (h.row i hi).kept hg (Or.inr (fun e => hne i hi (Option.some.inj e))), h.inj⟩
/-- One row more. -/
theorem Mtx.push {base N m fv fv' g M w w' r} (h : Mtx base N m fv g M w) (hr : w.ownsRow base 3 1 (.slice (some ⟨r, 0, none⟩) N N) N (intCells N (M m))) (hne : ∀ i, i < m → g i ≠ r)
    (hv : w'.ownsRow base 49 1 fv' (m + 1) (((List.range m).map fun i => .slice (some ⟨g i, 0, none⟩) N N) ++ [.slice (some ⟨r, 0, none⟩) N N])) (hg : w.grownBy w' fv.ownBlock) :
    Mtx base N (m + 1) fv' (fun i => if i = m then r else g i) M w' := by
  refine ⟨?_, fun i hi => ?_, fun i j hi hj e => ?_⟩
  · have e : ((List.range (m + 1)).map fun i => Value.slice (some ⟨if i = m then r else g i, 0, none⟩) N N) = ((List.range m).map fun i => .slice (some ⟨g i, 0, none⟩) N N) ++ [.slice (some ⟨r, 0, none⟩) N N] := by
      rw [List.range_succ, List.map_append]
      congr 1
      · apply List.map_congr_left
        intro i hi
        rw [if_neg (by have := List.mem_range.1 hi; omega)]
      · simp
    rw [e]; exact hv
  · by_cases e : i = m
    · subst e
      simp only [if_true]
      exact hr.kept hg (own_apart hr h.far (by decide))
    · simp only [if_neg e]
      exact (h.row i (by omega)).kept hg (own_apart (h.row i (by omega)) h.far (by decide))
  · by_cases e1 : i = m
    · by_cases e2 : j = m
      · omega
      · rw [if_pos e1, if_neg e2] at e
        exact absurd e.symm (hne j (by omega))
    · by_cases e2 : j = m
      · rw [if_neg e1, if_pos e2] at e
        exact absurd e (hne i (by omega))
      · rw [if_neg e1, if_neg e2] at e
        exact h.inj i j (by omega) (by omega) e

end Go.Proofs.YtppcnlkhdgmaiaaDoor
namespace Go.Proofs.YtppcnlkhdgmaiaaDoor
open Go.RowKit

end Go.Proofs.YtppcnlkhdgmaiaaDoor
namespace Go.Proofs.YtppcnlkhdgmaiaaDoor
open Go.RowKit

end Go.Proofs.YtppcnlkhdgmaiaaDoor
namespace Go.Proofs.YtppcnlkhdgmaiaaDoor
open Go.RowKit


theorem grown_over {w a c : World} {row r : Option Nat} (h : w.grownBy a row) (g : a.grownBy c r) (hr : ∀ k, r = some k → w.heap.size ≤ k) : w.grownBy c row :=
  ⟨g.os.trans h.os, g.tape.trans h.tape, g.output.trans h.output, Nat.le_trans h.size g.size, fun i hi hne => (g.block i (Nat.lt_of_lt_of_le hi h.size) (fun e => by have := hr i e.symm; omega)).trans (h.block i hi hne)⟩

end Go.Proofs.YtppcnlkhdgmaiaaDoor
namespace Go.Proofs.YtppcnlkhdgmaiaaDoor
open Go.RowKit

end Go.Proofs.YtppcnlkhdgmaiaaDoor
namespace Go.Proofs.YtppcnlkhdgmaiaaDoor
open Go.RowKit


end Go.Proofs.YtppcnlkhdgmaiaaDoor
namespace Go.Proofs.YtppcnlkhdgmaiaaDoor
open Go.RowKit

/-- The looks, from the first on. -/
def Hx.lookL (clock : List Nat) : List Int := Hx.sumsF 0 clock
theorem Hx.sumsF_snoc (t : Nat) (cs : List Nat) (c : Nat) : Hx.sumsF t (cs ++ [c]) = Hx.sumsF t cs ++ [((t + cs.sum + c : Nat) : Int)] := by
  induction cs generalizing t with
  | nil => simp [Hx.sumsF]
  | cons d cs ih =>
    show ((t : Int)) :: Hx.sumsF (t + d) (cs ++ [c]) = _
    rw [ih (t + d)]
    show _ = ((t : Int)) :: (Hx.sumsF (t + d) cs ++ _)
    rw [List.sum_cons, Nat.add_assoc t d]
theorem Hx.sumsF_len (t : Nat) (cs : List Nat) : (Hx.sumsF t cs).length = cs.length + 1 := by
  induction cs generalizing t with
  | nil => rfl
  | cons d cs ih => show _ + 1 = _; rw [ih]; rfl
theorem Hx.sumsF_last (t : Nat) (cs : List Nat) : (Hx.sumsF t cs)[cs.length]? = some ((t + cs.sum : Nat) : Int) := by
  induction cs generalizing t with
  | nil => simp [Hx.sumsF]
  | cons d cs ih =>
    show (((t : Int)) :: Hx.sumsF (t + d) cs)[cs.length + 1]? = _
    rw [List.getElem?_cons_succ, ih, List.sum_cons, Nat.add_assoc]
theorem own_drew {w : World} {base : Nat} {e : TypeId} {size : Nat} {v : Value} {n : Nat} {xs : List Value} (h : w.ownsRow base e size v n xs) : w.drew.ownsRow base e size v n xs := h.kept (grown_drewN w 1 none) (by cases v.ownBlock <;> simp)
theorem sum_take_le (l : List Nat) (k : Nat) : (l.take k).sum ≤ l.sum := by
  induction l generalizing k with
  | nil => simp
  | cons a l ih =>
    cases k with
    | zero => simp
    | succ k => simp only [List.take_succ_cons, List.sum_cons]; have := ih k; omega

end Go.Proofs.YtppcnlkhdgmaiaaDoor
namespace Go.Proofs.YtppcnlkhdgmaiaaDoor
open Go.RowKit

theorem decF_itoa (n : Nat) : Hx.decF n = Lib.itoa (n : Int) := by
  have e : ∀ n, Hx.decF n = Lib.decDigits n := by
    intro n
    induction n using Hx.decF.induct with
    | case1 n h => rw [Hx.decF, if_pos h, Lib.decDigits, dif_pos h]
    | case2 n h ih => rw [Hx.decF, if_neg h, Lib.decDigits, dif_neg h, ih]
  rw [e, Lib.itoa, if_neg (by omega)]
  simp
theorem nameB_nm (pl no : Nat) (h : no < 10) : nameB pl no = Hx.nmB pl no := by
  rw [nameB, Hx.decF_one h]; rfl
/-- A step of a table, as the document's Name takes it. -/
abbrev tsAgg (y : Hx.TStp) : Value := .agg #[.int .i64 (y.pl : Int), .int .i64 (y.no : Int), .int .i64 (y.lo : Int), .int .i64 (y.hi : Int), .bool y.rest, .int .i64 (y.mn : Int), .int .i64 (y.mx : Int), .int .i64 (y.t : Int), .int .i64 y.out, .int .i64 y.inn]
theorem Hx.firstF_cases (L : List Int) (x : Int) (n : Nat) : ∀ k, L.length - k = n → Hx.firstF L x k = -1 ∨ ∃ a : Nat, Hx.firstF L x k = (a : Int) ∧ k ≤ a ∧ a < L.length := by
  induction n with
  | zero => intro k hk; exact Or.inl (Hx.firstF_end (by omega))
  | succ n ih =>
    intro k hk
    have hlt : k < L.length := by omega
    by_cases h : x ≤ L[k]
    · exact Or.inr ⟨k, Hx.firstF_here (List.getElem?_eq_getElem hlt) h, Nat.le_refl _, hlt⟩
    · rw [Hx.firstF_next (List.getElem?_eq_getElem hlt) h]
      rcases ih (k + 1) (by omega) with h2 | ⟨a, h2, h3, h4⟩
      · exact Or.inl h2
      · exact Or.inr ⟨a, h2, by omega, h4⟩
theorem Hx.sumsF_bound (t : Nat) (cs : List Nat) : ∀ v ∈ Hx.sumsF t cs, ∃ n : Nat, v = (n : Int) ∧ n ≤ t + cs.sum := by
  induction cs generalizing t with
  | nil => intro v hv; rw [List.mem_singleton.1 hv]; exact ⟨t, rfl, by simp⟩
  | cons c cs ih =>
    intro v hv
    rcases List.mem_cons.1 hv with rfl | hv
    · exact ⟨t, rfl, by omega⟩
    · obtain ⟨n, e, h⟩ := ih (t + c) v hv
      exact ⟨n, e, by rw [List.sum_cons]; omega⟩
theorem joined_list (s t : List UInt8) : Hx.joinedF ⟨s.toArray⟩ ⟨t.toArray⟩ = ⟨(Hx.joinB s t).toArray⟩ := by
  unfold Hx.joinedF Hx.joinB
  have e : (⟨s.toArray⟩ : ByteArray).toList.isEmpty = s.isEmpty := by
    rw [Lib.toList_data]
  rw [e]
  cases s with
  | nil => simp
  | cons a s =>
    simp only [List.isEmpty_cons, reduceCtorEq, if_false, Bool.false_eq_true]
    rw [show (⟨#[44]⟩ : ByteArray) = ⟨([44] : List UInt8).toArray⟩ from rfl, bytes_app, bytes_app]

end Go.Proofs.YtppcnlkhdgmaiaaDoor
