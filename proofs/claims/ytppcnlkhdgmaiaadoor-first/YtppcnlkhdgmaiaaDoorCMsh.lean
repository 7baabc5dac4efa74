/- What the program's Plan answers. hatchkeep's planned, where only the tables of bytes and of powers of ten are wanted. What the cards of laws over shapes share: a shape that comes in, opened to its raw numbers. -/
import Derived.Test.YtppcnlkhdgmaiaaDoorCPxB
import Derived.Test.YtppcnlkhdgmaiaaDoorCPf
import Derived.Test.YtppcnlkhdgmaiaaDoorCPlC
namespace Go.Proofs.YtppcnlkhdgmaiaaDoor
open Go.RowKit

namespace Hx
theorem bestF_mem (J D : Nat) (ps : List (List Stp)) : ∀ (os : List (List Nat)) (b : Bst), bestF J D ps os = some b → b.o ∈ os ∧ candF J D ps b.o = some (b.f, b.e) := by
  have key : ∀ (os : List (List Nat)) (acc : Option Bst) (b : Bst), os.foldl (betterF J D ps) acc = some b → (acc = some b) ∨ (b.o ∈ os ∧ candF J D ps b.o = some (b.f, b.e)) := by
    intro os
    induction os with
    | nil => intro acc b h; exact Or.inl h
    | cons o os ih =>
      intro acc b h
      rcases ih _ b h with h | ⟨h1, h2⟩
      · unfold betterF at h
        split at h
        · exact Or.inl h
        · rename_i f e hc
          split at h
          · cases h; exact Or.inr ⟨by simp, hc⟩
          · split at h
            · cases h; exact Or.inr ⟨by simp, hc⟩
            · exact Or.inl h
      · exact Or.inr ⟨by simp [h1], h2⟩
  intro os b h
  rcases key os none b h with h | h
  · cases h
  · exact h
theorem candF_early {J D : Nat} {ps : List (List Stp)} {o : List Nat} {f : Nat → Int} {e : Int} (h : candF J D ps o = some (f, e)) : earlyF J (o.map (turnOfIdx ps)) = some f ∧ e = endT J (o.map (turnOfIdx ps)) f ∧ e ≤ (D : Int) := by
  unfold candF at h
  split at h
  · cases h
  · rename_i f' hf
    split at h
    · rename_i hd; cases h; exact ⟨hf, rfl, hd⟩
    · cases h

theorem raiseF_bd : ∀ (ls : List Lim) (f : Nat → Int) (b : Bool) (B : Int), 0 ≤ B → (∀ l ∈ ls, l.more ≤ 4000) → (∀ i, 0 ≤ f i ∧ f i ≤ B) → ∀ i, 0 ≤ (raiseF ls f b).1 i ∧ (raiseF ls f b).1 i ≤ B + 4000 * (ls.length : Int)
  | [], f, b, B, _, _, h, i => by simpa [raiseF] using h i
  | l :: r, f, b, B, hB, hm, h, i => by
    have hl := hm l (by simp)
    have hr : ∀ l ∈ r, l.more ≤ 4000 := fun x hx => hm x (by simp [hx])
    rw [raiseF]
    split
    · rename_i g
      have h1 := h l.fr
      have h2 := h l.to
      have := raiseF_bd r (updT f l.to (f l.fr + l.more)) true (B + 4000) (by omega) hr (fun j => by
        unfold updT
        have := h j
        split <;> omega) i
      rw [List.length_cons]
      omega
    · have := raiseF_bd r f b B hB hr h i
      rw [List.length_cons]
      omega
theorem roundsF_bd {ls : List Lim} (hm : ∀ l ∈ ls, l.more ≤ 4000) (hl : ls.length ≤ 300) : ∀ (k : Nat) (f g : Nat → Int) (B : Int), 0 ≤ B → (∀ i, 0 ≤ f i ∧ f i ≤ B) → roundsF ls k f = some g → ∀ i, 0 ≤ g i ∧ g i ≤ B + 1200000 * (k : Int)
  | 0, f, g, B, _, _, h => by cases h
  | k + 1, f, g, B, hB, hf, h => by
    have h1 := raiseF_bd ls f false B hB hm hf
    have h1' : ∀ i, 0 ≤ (raiseF ls f false).1 i ∧ (raiseF ls f false).1 i ≤ B + 1200000 := fun i => by have := h1 i; omega
    rw [roundsF] at h
    intro i
    split at h
    · have := roundsF_bd hm hl k _ g (B + 1200000) (by omega) h1' h i
      omega
    · cases h
      have := h1' i
      omega
theorem earlyF_bd {J : Nat} {o : List Trn} {f : Nat → Int} (hJ : J < 10) (hsm : ∀ t ∈ o, t.x.lo < 1000 ∧ t.x.hi < 1000 ∧ t.x.mn < 1000 ∧ t.x.mx < 1000) (hol : o.length ≤ 100) (h : earlyF J o = some f) : ∀ i, 0 ≤ f i ∧ f i ≤ 200000000 := by
  have hl := limsOf_len J o
  intro i
  have := roundsF_bd (fun l hl => (limsOf_more hJ hsm l hl).2) (by omega) o.length (fun _ => 0) f 0 (by omega) (fun i => by omega) h i
  omega

theorem allO_form (K : Nat) (L : List Lst) : ∀ (d : Nat) (l o : List Nat), o ∈ allO K L d l → o.length = l.length + d ∧ ∀ i ∈ o, i ∈ l ∨ i < L.length
  | 0, l, o, h => by
    rw [allO, List.mem_singleton] at h
    subst h
    exact ⟨rfl, fun i hi => Or.inl hi⟩
  | d + 1, l, o, h => by
    rw [allO, List.mem_flatMap] at h
    obtain ⟨i, hi, h⟩ := h
    split at h
    · obtain ⟨h1, h2⟩ := allO_form K L d _ o h
      refine ⟨by rw [h1, List.length_append]; simp; omega, fun j hj => ?_⟩
      rcases h2 j hj with h2 | h2
      · rcases List.mem_append.1 h2 with h2 | h2
        · exact Or.inl h2
        · rw [List.mem_singleton.1 h2]; exact Or.inr (List.mem_range.1 hi)
      · exact Or.inr h2
    · cases h
theorem ordersF_fst (K : Nat) (ps : List (List Stp)) (N : Nat) : ((ordersF K ps).take N).map (·.1) = (allO K (labs ps) (labs ps).length []).take N := by
  rw [List.map_take, ordersF, flagL_fst]
theorem order_form {K : Nat} {ps : List (List Stp)} {N : Nat} {o : List Nat} (h : o ∈ ((ordersF K ps).take N).map (·.1)) : o.length = (labs ps).length ∧ ∀ i ∈ o, i < (labs ps).length := by
  rw [ordersF_fst] at h
  obtain ⟨h1, h2⟩ := allO_form K (labs ps) _ [] o (List.mem_of_mem_take h)
  refine ⟨by rw [h1]; simp, fun i hi => ?_⟩
  rcases h2 i hi with h | h
  · cases h
  · exact h

theorem turn_sm {J K D : Nat} {ps : List (List Stp)} (h : GoodP J K D ps) {i : Nat} (hi : i < (labs ps).length) : TSm ps.length (turnOfIdx ps i) := by
  obtain ⟨p, n, q, x, hq, hx, rfl⟩ := labs_inv hi
  have e : turnOfIdx ps (offP ps p + n) = ⟨x, p, n, restAfter (labs ps) (offP ps p + n)⟩ := by
    unfold turnOfIdx
    rw [labs_at hq hx]
  rw [e]
  have hp : p < ps.length := getElem?_lt hq
  have hn : n < q.length := getElem?_lt hx
  have h5 := h.five q (List.mem_of_getElem? hq)
  have h4 := h.le
  obtain ⟨a, b, c, d⟩ := h.small q (List.mem_of_getElem? hq) x (List.mem_of_getElem? hx)
  exact ⟨hp, by show p < 26; omega, by show n < 10; omega, a, b, c, d⟩
theorem tight_sm {J K D : Nat} {ps : List (List Stp)} (h : GoodP J K D ps) (ht : (firstTight J (labs ps)).isSome = true) : TSm ps.length (tightT J ps) := by
  cases hf : firstTight J (labs ps) with
  | none => rw [hf] at ht; cases ht
  | some i =>
    unfold tightT
    rw [hf]
    exact turn_sm h (List.mem_range.1 (List.mem_of_find?_eq_some hf))
end Hx

set_option maxRecDepth 100000 in
set_option maxHeartbeats 8000000 in
theorem plan_any (s : ByteArray) (N : Int) (w : World) (hs : s.size ≤ maxLen) (htab : Tab w) (hp : P10 w) :
    Calls Tryd.prog 16 #[.string s, .int .i64 N] w fun e w' => e = .returned (.tuple #[.string ⟨(Hx.planF s N).1.toArray⟩, .bool (Hx.planF s N).2.1, .int .i64 (Hx.planF s N).2.2]) ∧ Below w.heap.size w w' := by
  obtain ⟨FIN, hFIN⟩ : ∃ FIN, FIN = Hx.planF s N := ⟨_, rfl⟩
  rw [← hFIN]
  have HCK := hide (checked_any s w hs htab)
  have HP := hide hp
  clear htab hp
  go_enter Tryd.func16, Tryd.ntmps16
  go_wp2_with fail
  refine (unhide HCK).mono ?_
  rintro e w1 ⟨hb1, ⟨hne, rfl⟩ | ⟨heq, v, rfl, hps⟩⟩
  · have HF : Hid (FIN = ([], false, ((Hx.checkF s).1 : Int))) := by show _ = _; rw [hFIN, Hx.planF, if_pos hne]
    have hneb : (((Hx.checkF s).1 : Int) != 0) = true := by simpa using hne
    have HB1 := hide hb1
    clear hb1 hne hFIN
    go_wp2_with fail
    go_returns
    exact ⟨by rw [unhide HF]; rfl, (unhide HB1).alloc (unhide HB1).size _⟩
  · have hgp := (Hx.good_prot (s := s) (by rw [heq])).2
    have hF1 : FIN = if N < 0 ∨ 1000 < N then (([], false, 5) : List UInt8 × Bool × Int)
        else if (Hx.firstTight (Hx.headJ s).1 (Hx.labs (Hx.protF s).2)).isSome then ((Hx.nameB (Hx.tightT (Hx.headJ s).1 (Hx.protF s).2).pl (Hx.tightT (Hx.headJ s).1 (Hx.protF s).2).no).data.toList, false, 6)
        else Hx.planB (Hx.headJ s).1 (Hx.headK s).1 (Hx.headD s).1 (Hx.protF s).2 N.toNat := by
      rw [hFIN, Hx.planF, if_neg (by rw [heq]; simp)]
    obtain ⟨J, hJ⟩ : ∃ J, J = (Hx.headJ s).1 := ⟨_, rfl⟩
    obtain ⟨K, hK⟩ : ∃ K, K = (Hx.headK s).1 := ⟨_, rfl⟩
    obtain ⟨D, hD⟩ : ∃ D, D = (Hx.headD s).1 := ⟨_, rfl⟩
    obtain ⟨ps, hpse⟩ : ∃ ps, ps = (Hx.protF s).2 := ⟨_, rfl⟩
    rw [← hJ, ← hK, ← hD, ← hpse] at hgp hF1
    rw [← hJ, ← hK, ← hD]
    rw [← hpse] at hps
    have HF1 := hide hF1
    have HG := hide hgp
    obtain ⟨ao, capv, rfl⟩ : ∃ ao cap, v = .slice ao ps.length cap := by
      obtain ⟨vs, h1, _⟩ := hps
      exact own_form h1
    have HB2 := hide (belA (.cells #[.int .i64 (J : Int), .int .i64 (K : Int), .int .i64 (D : Int), .slice ao ps.length capv] 75) hb1)
    have HPS2 := hide (hps.below ((Below.refl w1.heap.size w1).alloc (Nat.le_refl _) (.cells #[.int .i64 (J : Int), .int .i64 (K : Int), .int .i64 (D : Int), .slice ao ps.length capv] 75)))
    have HX := hide (bN #[.int .i64 (J : Int), .int .i64 (K : Int), .int .i64 (D : Int), .slice ao ps.length capv] 75 (w := w1) rfl)
    clear hb1 hps hgp hF1 hFIN heq hJ hK hD hpse HCK hs
    by_cases hN0 : N < 0
    · have HF : Hid (FIN = ([], false, 5)) := by show _ = _; rw [unhide HF1, if_pos (Or.inl hN0)]
      clear HF1
      go_wp2_with fail
      go_returns
      exact ⟨by rw [unhide HF]; rfl, unhide HB2⟩
    · by_cases hN1 : 1000 < N
      · have HF : Hid (FIN = ([], false, 5)) := by show _ = _; rw [unhide HF1, if_pos (Or.inr hN1)]
        clear HF1
        go_wp2_with fail
        go_returns
        exact ⟨by rw [unhide HF]; rfl, unhide HB2⟩
      · have HF2 : Hid (FIN = if (Hx.firstTight J (Hx.labs ps)).isSome then (((Hx.nameB (Hx.tightT J ps).pl (Hx.tightT J ps).no).data.toList, false, 6) : List UInt8 × Bool × Int)
            else Hx.planB J K D ps N.toNat) := by
          show _ = _
          rw [unhide HF1, if_neg (by omega)]
        clear HF1
        go_upto_region 6 with fail
        obtain ⟨pb, hpb⟩ : ∃ pb, pb = w1.heap.size := ⟨_, rfl⟩
        rw [← hpb] at HX ⊢
        clear hpb
        generalize w1.alloc (.cells #[.int .i64 (J : Int), .int .i64 (K : Int), .int .i64 (D : Int), .slice ao ps.length capv] 75) = w2 at *
        obtain ⟨fb, hfb⟩ : ∃ fb, fb = (Hx.firstTight J (Hx.labs ps)).isSome := ⟨_, rfl⟩
        obtain ⟨t, ht⟩ : ∃ t, t = Hx.tightT J ps := ⟨_, rfl⟩
        have HH : Hid (Calls Tryd.prog 32 #[.agg #[.int .i64 (J : Int), .int .i64 (K : Int), .int .i64 (D : Int), .slice ao ps.length capv]] w2 fun e w' => e = .returned (.tuple #[.agg #[.int .i64 (t.x.lo : Int), .int .i64 (t.x.hi : Int), .bool t.x.rest, .int .i64 (t.x.mn : Int), .int .i64 (t.x.mx : Int), .int .i64 (t.pl : Int), .int .i64 (t.no : Int), .bool t.beg], .bool fb]) ∧ Below w2.heap.size w2 w') := by
          have hg := unhide HG
          have hle := hg.le
          rw [hfb, ht]
          exact hope_any J K D _ w.heap.size ps w2 (unhide HPS2) hg.pos (by omega) hg.fine hg.small hg.j
        have HTS : Hid (fb = true → Hx.TSm ps.length t) := fun h => by rw [ht]; exact Hx.tight_sm (unhide HG) (by rw [← hfb]; exact h)
        rw [← hfb, ← ht] at HF2
        clear hfb ht
        have q0 : w2.cell? ⟨pb, 0, none⟩ = some (.int .i64 (J : Int)) := blk_cell (unhide HX) 0
        have q1 : w2.cell? ⟨pb, 1, none⟩ = some (.int .i64 (K : Int)) := blk_cell (unhide HX) 1
        have q2 : w2.cell? ⟨pb, 2, none⟩ = some (.int .i64 (D : Int)) := blk_cell (unhide HX) 2
        have q3 : w2.cell? ⟨pb, 3, none⟩ = some (.slice ao ps.length capv) := blk_cell (unhide HX) 3
        go_wp2_with fail
        refine (unhide HH).mono ?_
        rintro e w3 ⟨rfl, hb3⟩
        have HB4 := hide (belA (.cells #[.int .i64 (t.x.lo : Int), .int .i64 (t.x.hi : Int), .bool t.x.rest, .int .i64 (t.x.mn : Int), .int .i64 (t.x.mx : Int), .int .i64 (t.pl : Int), .int .i64 (t.no : Int), .bool t.beg] 83) (belB hb3 (unhide HB2)))
        have HW4 : Hid (Below w2.heap.size w2 (w3.alloc (.cells #[.int .i64 (t.x.lo : Int), .int .i64 (t.x.hi : Int), .bool t.x.rest, .int .i64 (t.x.mn : Int), .int .i64 (t.x.mx : Int), .int .i64 (t.pl : Int), .int .i64 (t.no : Int), .bool t.beg] 83))) := belA _ hb3
        have HX4 := hide (bBel (unhide HW4) (unhide HX))
        have HT4 := hide (bN #[.int .i64 (t.x.lo : Int), .int .i64 (t.x.hi : Int), .bool t.x.rest, .int .i64 (t.x.mn : Int), .int .i64 (t.x.mx : Int), .int .i64 (t.pl : Int), .int .i64 (t.no : Int), .bool t.beg] 83 (w := w3) rfl)
        have HPS4 := hide ((unhide HPS2).below (unhide HW4))
        clear hb3 q0 q1 q2 q3 HH HB2 HX HPS2 HW4
        go_upto_region 7 with fail
        obtain ⟨tb, htb⟩ : ∃ tb, tb = w3.heap.size := ⟨_, rfl⟩
        rw [← htb] at HT4 ⊢
        clear htb
        generalize w3.alloc (.cells #[.int .i64 (t.x.lo : Int), .int .i64 (t.x.hi : Int), .bool t.x.rest, .int .i64 (t.x.mn : Int), .int .i64 (t.x.mx : Int), .int .i64 (t.pl : Int), .int .i64 (t.no : Int), .bool t.beg] 83) = w4 at *
        cases fb with
        | true =>
          have hts := unhide HTS rfl
          have HF : Hid (FIN = ((Hx.nameB t.pl t.no).data.toList, false, 6)) := by show _ = _; rw [unhide HF2, if_pos rfl]
          have y0 : w4.cell? ⟨tb, 0, none⟩ = some (.int .i64 (t.x.lo : Int)) := blk_cell (unhide HT4) 0
          have y1 : w4.cell? ⟨tb, 1, none⟩ = some (.int .i64 (t.x.hi : Int)) := blk_cell (unhide HT4) 1
          have y2 : w4.cell? ⟨tb, 2, none⟩ = some (.bool t.x.rest) := blk_cell (unhide HT4) 2
          have y3 : w4.cell? ⟨tb, 3, none⟩ = some (.int .i64 (t.x.mn : Int)) := blk_cell (unhide HT4) 3
          have y4 : w4.cell? ⟨tb, 4, none⟩ = some (.int .i64 (t.x.mx : Int)) := blk_cell (unhide HT4) 4
          have y5 : w4.cell? ⟨tb, 5, none⟩ = some (.int .i64 (t.pl : Int)) := blk_cell (unhide HT4) 5
          have y6 : w4.cell? ⟨tb, 6, none⟩ = some (.int .i64 (t.no : Int)) := blk_cell (unhide HT4) 6
          have y7 : w4.cell? ⟨tb, 7, none⟩ = some (.bool t.beg) := blk_cell (unhide HT4) 7
          have HNM := hide (tname_any t w4 hts.pl26 hts.no)
          clear hts HF2 HTS
          go_wp2_with fail
          refine (unhide HNM).mono ?_
          rintro e w5 ⟨rfl, hb5⟩
          have HB5 := hide (belB hb5 (unhide HB4))
          clear hb5
          go_wp2_with fail
          go_returns
          refine ⟨?_, unhide HB5⟩
          rw [unhide HF]
          simp only [Array.toArray_toList]
          rfl
        | false =>
          have HF3 : Hid (FIN = Hx.planB J K D ps N.toNat) := by show _ = _; rw [unhide HF2, if_neg (by simp)]
          have q0 : w4.cell? ⟨pb, 0, none⟩ = some (.int .i64 (J : Int)) := blk_cell (unhide HX4) 0
          have q1 : w4.cell? ⟨pb, 1, none⟩ = some (.int .i64 (K : Int)) := blk_cell (unhide HX4) 1
          have q2 : w4.cell? ⟨pb, 2, none⟩ = some (.int .i64 (D : Int)) := blk_cell (unhide HX4) 2
          have q3 : w4.cell? ⟨pb, 3, none⟩ = some (.slice ao ps.length capv) := blk_cell (unhide HX4) 3
          clear HF2 HTS HT4
          by_cases hz : N = 0
          · subst hz
            have HF : Hid (FIN = ([], false, 8)) := by show _ = _; rw [unhide HF3]; rfl
            clear HF3
            go_wp2_with fail
            refine (best_zero J K D ao ps.length capv w4).mono ?_
            rintro e w5 ⟨rfl, hb5⟩
            have HB5 := hide (belA (.cells #[.slice none 0 0, .slice none 0 0, .int .i64 0] 89) (belB hb5 (unhide HB4)))
            clear hb5
            go_wp2_with fail
            go_returns
            exact ⟨by rw [unhide HF]; rfl, unhide HB5⟩
          · obtain ⟨n, rfl⟩ : ∃ n : Nat, N = (n : Int) := ⟨N.toNat, by omega⟩
            have hn0 : 0 < n := by omega
            have hn1 : n ≤ 1000 := by omega
            rw [Int.toNat_natCast] at HF3
            have HBT : Hid (Calls Tryd.prog 34 #[.agg #[.int .i64 (J : Int), .int .i64 (K : Int), .int .i64 (D : Int), .slice ao ps.length capv], .int .i64 (n : Int)] w4 (BestRes w4 J K D ps n)) := by
              have hg := unhide HG
              have hle := hg.le
              exact best_any J K D n w.heap.size _ ps w4 hn0 hn1 (unhide HPS4) hg.pos (by omega) (fun b => hg.goodC _ b)
            have HMO : Hid (Hx.moreF K ps n = Hx.lastB ((Hx.ordersF K ps).take n)) := by show _ = _; rw [Hx.moreF, if_neg (by omega)]
            clear hz hN0 hN1
            go_wp2_with fail
            refine (unhide HBT).mono ?_
            rintro e w5 ⟨ov, tv, en, rfl, hb5, hnone, hsome⟩
            obtain ⟨mb, hmb⟩ : ∃ mb, mb = Hx.lastB ((Hx.ordersF K ps).take n) := ⟨_, rfl⟩
            rw [← hmb] at HMO ⊢
            clear hmb HBT
            cases hbf : Hx.bestF J D ps (((Hx.ordersF K ps).take n).map (·.1)) with
            | none =>
              obtain ⟨rfl, rfl, rfl⟩ := hnone hbf
              have HF : Hid (FIN = ([], false, if mb then 8 else 7)) := by show _ = _; rw [unhide HF3, Hx.planB, hbf]; simp only; rw [unhide HMO]
              have HB5 := hide (belA (.cells #[.slice none 0 0, .slice none 0 0, .int .i64 0] 89) (belB hb5 (unhide HB4)))
              clear hnone hsome hb5 hbf HF3 HMO
              simp only [Option.isSome_none]
              cases mb with
              | true =>
                go_wp2_with fail
                go_returns
                exact ⟨by rw [unhide HF]; rfl, unhide HB5⟩
              | false =>
                go_wp2_with fail
                go_returns
                exact ⟨by rw [unhide HF]; rfl, unhide HB5⟩
            | some b =>
              obtain ⟨rfl, hov, htv⟩ := hsome b hbf
              obtain ⟨hbo, hbc⟩ := Hx.bestF_mem J D ps _ b hbf
              obtain ⟨hbl, hbi⟩ := Hx.order_form hbo
              obtain ⟨hbe, _, _⟩ := Hx.candF_early hbc
              have hg := unhide HG
              have hall := hg.all
              have hsome0 : 0 < (Hx.labs ps).length := (hg.goodC (.slice ao ps.length capv) ⟨0, 0, 0, 0, 0, 0, 0⟩).some
              have hts : ∀ t ∈ b.o.map (Hx.turnOfIdx ps), Hx.TSm ps.length t := fun t ht => by
                obtain ⟨i, hi, rfl⟩ := List.mem_map.1 ht
                exact Hx.turn_sm hg (hbi i hi)
              have hml : (b.o.map (Hx.turnOfIdx ps)).length = b.o.length := by simp
              have hfb : ∀ i, i < (b.o.map (Hx.turnOfIdx ps)).length → 0 ≤ b.f i ∧ b.f i ≤ 200000000 := fun i _ => Hx.earlyF_bd hg.j (fun t ht => ⟨(hts t ht).lo, (hts t ht).hi, (hts t ht).mn, (hts t ht).mx⟩) (by rw [hml]; omega) hbe i
              have HF : Hid (FIN = (Hx.writeF J ps.length (Hx.pairs (b.o.map (Hx.turnOfIdx ps)) b.f), !mb, 0)) := by show _ = _; rw [unhide HF3, Hx.planB, hbf]; simp only; rw [unhide HMO]
              obtain ⟨o1, c1, rfl⟩ := own_form hov
              obtain ⟨o2, c2, rfl⟩ := own_form htv
              obtain ⟨o, ho⟩ : ∃ o, o = b.o.map (Hx.turnOfIdx ps) := ⟨_, rfl⟩
              rw [← ho] at hov hts hml hfb HF ⊢
              rw [← hml] at htv ⊢
              have hop : 0 < o.length := by omega
              have hol : o.length ≤ 100 := by omega
              obtain ⟨f, hf⟩ : ∃ f, f = b.f := ⟨_, rfl⟩
              obtain ⟨en, hen⟩ : ∃ en, en = b.e := ⟨_, rfl⟩
              rw [← hf] at htv hfb HF
              rw [← hen]
              have HB6 := hide (belA (.cells #[.slice o1 o.length c1, .slice o2 o.length c2, .int .i64 en] 89) (belB hb5 (unhide HB4)))
              have HW6 : Hid (Below w4.heap.size w4 (w5.alloc (.cells #[.slice o1 o.length c1, .slice o2 o.length c2, .int .i64 en] 89))) := belA _ hb5
              have HX6 := hide (bBel (unhide HW6) (unhide HX4))
              have HT6 := hide (bN #[.slice o1 o.length c1, .slice o2 o.length c2, .int .i64 en] 89 (w := w5) rfl)
              have HOV := hide ((own_mono hov (Nat.zero_le _)).alloc (.cells #[.slice o1 o.length c1, .slice o2 o.length c2, .int .i64 en] 89))
              have HTV := hide ((own_mono htv (Nat.zero_le _)).alloc (.cells #[.slice o1 o.length c1, .slice o2 o.length c2, .int .i64 en] 89))
              have HTS := hide hts
              have HFB := hide hfb
              clear hnone hsome hb5 hbf HF3 HMO hov htv hbo hbc hbl hbi hbe hg hall hsome0 hts hml hfb ho hf hen q0 q1 q2 q3 HX4 HPS4 HW6
              simp only [Option.isSome_some]
              go_upto_region 10 with fail
              obtain ⟨bb, hbb⟩ : ∃ bb, bb = w5.heap.size := ⟨_, rfl⟩
              rw [← hbb] at HT6 ⊢
              clear hbb
              generalize w5.alloc (.cells #[.slice o1 o.length c1, .slice o2 o.length c2, .int .i64 en] 89) = w6 at *
              have q0 : w6.cell? ⟨pb, 0, none⟩ = some (.int .i64 (J : Int)) := blk_cell (unhide HX6) 0
              have q1 : w6.cell? ⟨pb, 1, none⟩ = some (.int .i64 (K : Int)) := blk_cell (unhide HX6) 1
              have q2 : w6.cell? ⟨pb, 2, none⟩ = some (.int .i64 (D : Int)) := blk_cell (unhide HX6) 2
              have q3 : w6.cell? ⟨pb, 3, none⟩ = some (.slice ao ps.length capv) := blk_cell (unhide HX6) 3
              have z0 : w6.cell? ⟨bb, 0, none⟩ = some (.slice o1 o.length c1) := blk_cell (unhide HT6) 0
              have z1 : w6.cell? ⟨bb, 1, none⟩ = some (.slice o2 o.length c2) := blk_cell (unhide HT6) 1
              have z2 : w6.cell? ⟨bb, 2, none⟩ = some (.int .i64 en) := blk_cell (unhide HT6) 2
              have HWRT : Hid (Calls Tryd.prog 35 #[.agg #[.int .i64 (J : Int), .int .i64 (K : Int), .int .i64 (D : Int), .slice ao ps.length capv], .agg #[.slice o1 o.length c1, .slice o2 o.length c2, .int .i64 en]] w6
                  fun e w' => e = .returned (.string ⟨(Hx.writeF J ps.length (Hx.pairs o f)).toArray⟩) ∧ Below w6.heap.size w6 w') := by
                have hg := unhide HG
                have hle := hg.le
                exact write_any J K D ps.length ao capv _ _ en o f w6 (unhide HOV) (unhide HTV) hop hol hg.pos (by omega) (unhide HTS) (unhide HFB) hg.j ((unhide HP).below (unhide HB6))
              clear HG HX6 HT6 HOV HTV HTS HFB
              go_wp2_with fail
              refine (unhide HWRT).mono ?_
              rintro e w7 ⟨rfl, hb7⟩
              have HB7 := hide (belB hb7 (unhide HB6))
              clear hb7
              go_wp2_with fail
              go_returns
              exact ⟨by rw [unhide HF]; rfl, unhide HB7⟩

end Go.Proofs.YtppcnlkhdgmaiaaDoor
namespace Go.Proofs.YtppcnlkhdgmaiaaDoor
open Go.RowKit

/-- What Plan wants of memory: the table of bytes, and the library's powers of ten. -/
def PlE (w : World) : Prop := Tab w ∧ P10 w
theorem lasts_ple : Lasts PlE := fun _ _ h hb => ⟨h.1.below hb, h.2.below hb⟩

abbrev pxB1 : ByteArray := ⟨#[106, 49, 107, 49, 100, 57, 57, 59, 97, 61, 50, 45, 51, 126, 53, 45, 57, 126, 52, 45, 52, 59, 98, 61, 49, 45, 49]⟩
abbrev pxB2 : ByteArray := ⟨#[106, 48, 107, 48, 100, 56, 59, 97, 61, 50, 45, 51, 44, 49, 45, 49, 59, 98, 61, 52, 45, 52]⟩
set_option maxRecDepth 100000 in
theorem Hx.plannedx1 : Hx.planF pxB1 9 = ([106, 49, 59, 97, 48, 64, 48, 43, 50, 45, 51, 62, 48, 59, 98, 48, 64, 52, 43, 49, 45, 49, 59, 97, 49, 64, 57, 43, 52, 45, 52, 60, 48, 58, 53, 45, 57], true, 0) := by decide +kernel
set_option maxRecDepth 100000 in
theorem Hx.plannedx2 : Hx.planF pxB2 1 = ([106, 48, 59, 97, 48, 64, 48, 43, 50, 45, 51, 59, 97, 49, 64, 51, 43, 49, 45, 49, 59, 98, 48, 64, 52, 43, 52, 45, 52], false, 0) := by decide +kernel
theorem plan_px1 (w : World) (h : PlE w) : Calls Tryd.prog 16 #[.string pxB1, .int .i64 9] w fun e w' => e = .returned (.tuple #[.string ⟨#[106, 49, 59, 97, 48, 64, 48, 43, 50, 45, 51, 62, 48, 59, 98, 48, 64, 52, 43, 49, 45, 49, 59, 97, 49, 64, 57, 43, 52, 45, 52, 60, 48, 58, 53, 45, 57]⟩, .bool true, .int .i64 0]) ∧ Below w.heap.size w w' := by
  have := plan_any pxB1 9 w (by decide) h.1 h.2
  rw [Hx.plannedx1] at this
  exact this
theorem plan_px2 (w : World) (h : PlE w) : Calls Tryd.prog 16 #[.string pxB2, .int .i64 1] w fun e w' => e = .returned (.tuple #[.string ⟨#[106, 48, 59, 97, 48, 64, 48, 43, 50, 45, 51, 59, 97, 49, 64, 51, 43, 49, 45, 49, 59, 98, 48, 64, 52, 43, 52, 45, 52]⟩, .bool false, .int .i64 0]) ∧ Below w.heap.size w w' := by
  have := plan_any pxB2 1 w (by decide) h.1 h.2
  rw [Hx.plannedx2] at this
  exact this

set_option maxRecDepth 100000 in
set_option maxHeartbeats 1000000 in
theorem planned_ple (w : World) (h : PlE w) : Calls Tryd.prog 11 #[] w fun e w' => e = .returned (.bool true) ∧ Below w.heap.size w w' := by
  have HR1 := hide (plan_px1 w h)
  have HE := hide h
  clear h
  go_enter Tryd.func11, Tryd.ntmps11
  go_wp2_with fail
  refine (unhide HR1).mono ?_
  rintro e w1 ⟨rfl, hb1⟩
  have HE1 := hide (lasts_ple _ _ (unhide HE) hb1)
  have HB1 := hide hb1
  clear hb1
  go_wp2_with fail
  refine (plan_px2 w1 (unhide HE1)).mono ?_
  rintro e w2 ⟨rfl, hb2⟩
  have HB2 := hide ((unhide HB1).trans (hb2.mono (unhide HB1).size))
  clear hb2
  go_wp2_with fail
  go_returns
  exact ⟨rfl, unhide HB2⟩

end Go.Proofs.YtppcnlkhdgmaiaaDoor
namespace Go.Proofs.YtppcnlkhdgmaiaaDoor
open Go.ChangeShapes Go.WideShapes Go.ChangeAt Go.RowKit Go.Deep

theorem cellsRaw : Tryd.prog.cellsOf 72 = 5 := by kernel_rfl
theorem cellsRaws : Tryd.prog.cellsOf 70 = 1 := by kernel_rfl
theorem cellsRows : Tryd.prog.cellsOf 22 = 1 := by kernel_rfl
theorem cellsShape : Tryd.prog.cellsOf 24 = 4 := by kernel_rfl
theorem i64_wf {n : Int} (h : (Lit.int .i64 n).wf = true) : I64 n := by
  unfold I64
  simp [Lit.wf] at h
  first | exact h | (have := h; constructor <;> omega)
theorem addr_at {b off k : Nat} (j : Nat) : ((⟨b, off, none⟩ : Addr).add k).add j = ⟨b, off + k + j, none⟩ := by
  rw [add_add]
  unfold Addr.add
  split
  · have h : k + j = 0 := by assumption
    have e1 : k = 0 := by omega
    have e2 : j = 0 := by omega
    rw [e1, e2]; rfl
  · simp only [Nat.add_assoc]
instance : Inhabited Hx.Raw := ⟨⟨0, 0, 0, 0, 0⟩⟩

set_option maxRecDepth 100000 in
theorem raw_open {H : Type} {enc : TypeId × Value → H} {W : World} {b off i n : Nat} {cs : List Value} {x : DataW H × List MemPlace} {spare : Nat → Bool} {held : Bool}
    (h1 : W.cells? 0 ((⟨b, off, none⟩ : Addr).add (i * Tryd.prog.cellsOf 72)) (Tryd.prog.cellsOf 72) = some cs) (h2 : DataW.trod enc Tryd.prog W 0 spare held n 72 cs = some x) :
    ∃ r : Hx.Raw, RawOk r ∧ ∀ t, t < 5 → W.cell? ⟨b, off + (i * 5 + t), none⟩ = (rawCells r)[t]? := by
  rw [cellsRaw] at h1
  obtain ⟨_, hlen, hcell⟩ := World.cells?_some h1
  obtain ⟨xs, k, _, _, _, hxl, hf⟩ := DataW.trod_struct Tryd.underlying72 h2
  match cs, hlen with
  | [v0, v1, v2, v3, v4], _ =>
    have g0 := hf 0 _ rfl
    have g1 := hf 1 _ rfl
    have g2 := hf 2 _ rfl
    have g3 := hf 3 _ rfl
    have g4 := hf 4 _ rfl
    match xs, hxl with
    | [y0, y1, y2, y3, y4], _ =>
      simp [cells3] at g0 g1 g2 g3 g4
      obtain ⟨q0, e0, _, w0⟩ := DataW.trod_int Tryd.underlying3 g0
      obtain ⟨q1, e1, _, w1⟩ := DataW.trod_int Tryd.underlying3 g1
      obtain ⟨q2, e2, _, w2⟩ := DataW.trod_int Tryd.underlying3 g2
      obtain ⟨q3, e3, _, w3⟩ := DataW.trod_int Tryd.underlying3 g3
      obtain ⟨q4, e4, _, w4⟩ := DataW.trod_int Tryd.underlying3 g4
      simp at e0 e1 e2 e3 e4
      subst e0 e1 e2 e3 e4
      refine ⟨⟨q0, q1, q2, q3, q4⟩, ⟨i64_wf w0, i64_wf w1, i64_wf w2, i64_wf w3, i64_wf w4⟩, fun t ht => ?_⟩
      have c := hcell t (by omega)
      rw [addr_at, Nat.add_assoc] at c
      rw [c]
      rfl
theorem spot_none {W : World} {b off n : Nat} {spot : Option _} {cs : List Value} (hn : 0 < n) (h : W.cells? 0 ((⟨b, off, spot⟩ : Addr).add (0 * n)) n = some cs) : spot = none := by
  have hc := (World.cells?_some h).2.2 0 hn
  have hcl := (World.cells?_some h).2.1
  obtain ⟨u, hu⟩ : ∃ u, cs[0]? = some u := ⟨cs[0], List.getElem?_eq_getElem (by omega)⟩
  rw [hu] at hc
  simpa [Addr.add] using World.cell?_spot hc
theorem map_at {α : Type} {f : Nat → α} {n i : Nat} {x : α} (h : ((List.range n).map f)[i]? = some x) : i < n ∧ x = f i := by
  rw [List.getElem?_map] at h
  by_cases hi : i < n
  · rw [List.getElem?_range hi] at h
    exact ⟨hi, (Option.some.inj h).symm⟩
  · rw [List.getElem?_eq_none (by simpa using hi)] at h
    cases h
theorem row_open {H : Type} {enc : TypeId × Value → H} {W : World} {fuel : Nat} {cs : List Value} {x : DataW H × List MemPlace} {held : Bool}
    (h : DataW.trod enc Tryd.prog W 0 (fun _ => true) held fuel 70 cs = some x) : ∃ v q, cs = [v] ∧ RowR W v q := by
  rcases open_slice Tryd.underlying70 h with ⟨hcs, _⟩ | ⟨a, len, cap, m, n, D, Pl, hcs, _, hl, hm, hmm, _, hx⟩
  · exact ⟨_, [], hcs, none, 0, rfl, Nat.zero_le _, fun i x hx => by simp at hx⟩
  · simp at hmm
    subst hmm
    obtain ⟨b, off, spot⟩ := a
    by_cases hz : len = 0
    · subst hz
      exact ⟨_, [], hcs, _, _, rfl, Nat.zero_le _, fun i x hx => by simp at hx⟩
    · obtain ⟨cs0, g0, _⟩ := hx 0 (by omega)
      have hsp := spot_none (by rw [cellsRaw]; omega) g0
      subst hsp
      obtain ⟨f, hf⟩ := choose_lt (n := len) (fun i hi => by
        obtain ⟨cs', g1, g2⟩ := hx i (by omega)
        exact raw_open g1 g2)
      refine ⟨_, (List.range len).map f, hcs, some ⟨b, off, none⟩, m, by simp, by simp; omega, fun i r hi => ?_⟩
      obtain ⟨hi', rfl⟩ := map_at hi
      exact ⟨(hf i hi').1, b, off, rfl, (hf i hi').2⟩
theorem rows_open {H : Type} {enc : TypeId × Value → H} {W : World} {fuel : Nat} {cs : List Value} {x : DataW H × List MemPlace} {held : Bool}
    (h : DataW.trod enc Tryd.prog W 0 (fun _ => true) held fuel 22 cs = some x) : ∃ v qs, cs = [v] ∧ RowsR W v qs := by
  rcases open_slice Tryd.underlying22 h with ⟨hcs, _⟩ | ⟨a, len, cap, m, n, D, Pl, hcs, _, hl, hm, hmm, _, hx⟩
  · exact ⟨_, [], hcs, none, 0, rfl, Nat.zero_le _, fun i x hx => by simp at hx⟩
  · simp at hmm
    subst hmm
    obtain ⟨b, off, spot⟩ := a
    by_cases hz : len = 0
    · subst hz
      exact ⟨_, [], hcs, _, _, rfl, Nat.zero_le _, fun i x hx => by simp at hx⟩
    · obtain ⟨cs0, g0, _⟩ := hx 0 (by omega)
      have hsp := spot_none (by rw [cellsRaws]; omega) g0
      subst hsp
      obtain ⟨f, hf⟩ := choose_lt (n := len) (p := fun i (q : List Hx.Raw) => ∃ u, W.cell? ⟨b, off + i, none⟩ = some u ∧ RowR W u q) (fun i hi => by
        obtain ⟨cs', g1, g2⟩ := hx i (by omega)
        rw [cellsRaws, Nat.mul_one] at g1
        obtain ⟨u, q, rfl, hr⟩ := row_open g2
        have c := (World.cells?_some g1).2.2 0 (by omega)
        rw [addr_at] at c
        exact ⟨q, u, c, hr⟩)
      refine ⟨_, (List.range len).map f, hcs, some ⟨b, off, none⟩, m, by simp, by simp; omega, fun i q hi => ?_⟩
      obtain ⟨hi', rfl⟩ := map_at hi
      obtain ⟨u, c, hr⟩ := hf i hi'
      exact ⟨b, off, u, rfl, c, hr⟩
set_option maxRecDepth 100000 in
/-- A shape that comes in. -/
theorem shape_open {H : Type} {enc : TypeId × Value → H} {W : World} {base : Nat} {v : Value} {d : DataW H} {p : List MemPlace} {held : Bool} (hv : Value.okWide Tryd.prog W .any base 24 v)
    (h : DataW.Trod enc Tryd.prog W 0 (fun _ => true) held 24 v d p) : ∃ sJ sK sD sv qs, v = .agg #[.int .i64 sJ, .int .i64 sK, .int .i64 sD, sv] ∧ I64 sJ ∧ I64 sK ∧ I64 sD ∧ RowsR W sv qs := by
  obtain ⟨cs, rfl, hsz⟩ := okWide_struct Tryd.underlying24 hv
  rw [cellsShape] at hsz
  obtain ⟨fuel, hf⟩ := h
  obtain ⟨xs, k, _, _, _, hxl, hx⟩ := DataW.trod_struct Tryd.underlying24 hf
  obtain ⟨l⟩ := cs
  match l, hsz with
  | [v0, v1, v2, v3], _ =>
    have g0 := hx 0 _ rfl
    have g1 := hx 1 _ rfl
    have g2 := hx 2 _ rfl
    have g3 := hx 3 _ rfl
    match xs, hxl with
    | [y0, y1, y2, y3], _ =>
      simp [cells3, cellsRows, Value.cells] at g0 g1 g2 g3
      obtain ⟨q0, e0, _, w0⟩ := DataW.trod_int Tryd.underlying3 g0
      obtain ⟨q1, e1, _, w1⟩ := DataW.trod_int Tryd.underlying3 g1
      obtain ⟨q2, e2, _, w2⟩ := DataW.trod_int Tryd.underlying3 g2
      obtain ⟨u, qs, e3, hr⟩ := rows_open g3
      simp at e0 e1 e2 e3
      subst e0 e1 e2 e3
      exact ⟨q0, q1, q2, _, qs, rfl, i64_wf w0, i64_wf w1, i64_wf w2, hr⟩
theorem gPow : Tryd.prog.globalNamed "internal/strconv.uint64pow10" = some 2 := by kernel_rfl
theorem gPowType : (Tryd.prog.globals[2]?).map (·.type) = some 198 := by kernel_rfl
theorem cellsPow : Tryd.prog.cellsOf 198 = 20 := by kernel_rfl
theorem cellsPow1 : Tryd.prog.cellsOf 185 = 1 := by kernel_rfl
set_option maxRecDepth 100000 in
theorem plan_table {L : List (String × DataW Unit)} {W : World} (h0 : laidMet Tryd.prog L W)
    (e1 : L.filter (fun x => x.1 == "hatch/hatch.byteKinds") = [("hatch/hatch.byteKinds", Lib.tabData .u8 tabNums)])
    (e3 : L.filter (fun x => x.1 == "internal/strconv.uint64pow10") = [("internal/strconv.uint64pow10", Lib.tabData .u64 Lib.pow10Tab)]) : PlE W := by
  refine ⟨?_, ?_⟩
  · have h00 := h0.filter (fun x => x.1 == "hatch/hatch.byteKinds")
    rw [e1] at h00
    have h1 : Lib.TabIs Tryd.prog W "hatch/hatch.byteKinds" .u8 tabNums := Lib.tabIs_of_head (rest := []) gTab gTabType Tryd.underlying189 Tryd.underlying5 cellsU8 cells189 h00
    intro i hi
    have h2 := h1.cell gTab i (by simpa [tabNums] using hi)
    rw [tabNums_kind i hi] at h2
    exact h2
  · have h00 := h0.filter (fun x => x.1 == "internal/strconv.uint64pow10")
    rw [e3] at h00
    exact Lib.tabIs_of_head (rest := []) gPow gPowType Tryd.underlying198 Tryd.underlying185 cellsPow1 cellsPow h00
end Go.Proofs.YtppcnlkhdgmaiaaDoor
