/- What hatchkeep's decimal, greater, over do. The plain mathematics of a protocol's text: it is read as what it was written of. No program is named here. What hatchkeep's text does: the protocol of a plan. What hatchkeep's pick does. A shape of raw numbers: how it lies in memory, and the plan that it speaks of. The plain mathematics of a clock that goes on for longer: what has ended stays, what was open goes on from what was told; and that a script with a longer clock is read as such. No program is named here. The plain mathematics of texts that are put together: their bytes; two scripts of which one has the longer clock. No program is named here. What hatchkeep's cut does. -/
import Derived.Test.YtppcnlkhdgmaiaaDoorCRfD
import Derived.Test.YtppcnlkhdgmaiaaDoorCScH
import Derived.Test.YtppcnlkhdgmaiaaDoorCScV
import Derived.Test.YtppcnlkhdgmaiaaDoorCPlU
import Derived.Test.YtppcnlkhdgmaiaaDoorCRdD
import Derived.Handy
import Derived.Test.YtppcnlkhdgmaiaaDoorCRmF
import Derived.Deep.LoopGhost
namespace Go.Proofs.YtppcnlkhdgmaiaaDoor
open Go.RowKit

theorem dec_is (n : Nat) : Hx.decF n = Lib.itoa (n : Int) := by
  have e : ∀ n, Hx.decF n = Lib.decDigits n := by
    intro n
    induction n using Hx.decF.induct with
    | case1 n h => rw [Hx.decF, if_pos h, Lib.decDigits, dif_pos h]
    | case2 n h ih => rw [Hx.decF, if_neg h, Lib.decDigits, dif_neg h, ih]
  rw [e, Hx.itoa_nat]

set_option maxHeartbeats 1000000 in
theorem kdecimal_any (n0 : Nat) (ni : Int) (w : World) (hn : n0 ≤ 1000000) (hni : ni = (n0 : Int)) :
    Calls Tryd.prog 18 #[.int .i64 ni] w fun e w' => e = .returned (.string ⟨(Hx.decF n0).toArray⟩) ∧ w' = w := by
  subst hni
  go_enter Tryd.func18, Tryd.ntmps18
  go_wp2_with fail
  go_loopg [0, 3] n0 (fun gk n t wr => ∃ l : List UInt8, n = .int .i64 (gk : Int) ∧ t = .string ⟨l.toArray⟩ ∧ gk + l.length ≤ n0 ∧ Hx.decF gk ++ l = Hx.decF n0 ∧ wr = w)
  case atStart => exact ⟨[], rfl, rfl, by simp, by simp, rfl⟩
  case round =>
    obtain ⟨l, rfl, rfl, hm, hd, hw⟩ := hrel
    subst hw
    have HD := hide hd
    clear hd
    by_cases h9 : (9 : Int) < (gk : Int)
    · have hs := hide (digit_app (gk % 10) (by omega) l)
      have HD2 : Hid (Hx.decF (gk / 10) ++ ([UInt8.ofNat (48 + gk % 10)] ++ l) = Hx.decF n0) := by
        show _ = _
        rw [← unhide HD, Hx.decF_more (n := gk) (by omega), List.append_assoc]
      go_wp2_with fail
      go_roundg (gk / 10)
      case measure => omega
      case rel => exact ⟨_, by go_num, by rw [unhide hs], by rw [List.length_append]; show gk / 10 + (1 + l.length) ≤ n0; omega, unhide HD2, rfl⟩
    · have hs := hide (digit_app gk (by omega) l)
      have HD2 : Hid ([UInt8.ofNat (48 + gk)] ++ l = Hx.decF n0) := by
        show _ = _
        rw [← unhide HD, Hx.decF_one (n := gk) (by omega)]
      have h9' : (gk : Int) ≤ 9 := by omega
      clear h9
      go_wp2_with fail
      go_returns
      exact ⟨ret_str (by rw [← unhide HD2]; exact unhide hs), rfl⟩
/-- A number's digits, under a letter. -/
theorem kdec_as (n : Nat) (b : ByteArray) (w : World) (hn : n ≤ 1000000) (hb : b = ⟨(Lib.itoa (n : Int)).toArray⟩) :
    Calls Tryd.prog 18 #[.int .i64 (n : Int)] w fun e w' => e = .returned (.string b) ∧ w' = w := by
  refine (kdecimal_any n _ w hn rfl).mono ?_
  rintro e w' ⟨rfl, rfl⟩
  exact ⟨by rw [hb, dec_is], rfl⟩
theorem Hx.itoa_seven {n : Nat} (hn : n ≤ 1000000) : (Lib.itoa (n : Int)).length ≤ 7 := by
  rw [Hx.itoa_len]
  exact Hx.nDigits_le (k := 6) (by omega)

theorem kgreater_any (a b : Int) (w : World) : Calls Tryd.prog 41 #[.int .i64 a, .int .i64 b] w fun e w' => e = .returned (.int .i64 (if b < a then a else b)) ∧ w' = w := by
  by_cases h : b < a
  · rw [if_pos h]
    go_enter Tryd.func41, Tryd.ntmps41
    go_wp2_with fail
    go_returns
    exact ⟨rfl, rfl⟩
  · rw [if_neg h]
    go_enter Tryd.func41, Tryd.ntmps41
    go_wp2_with fail
    go_returns
    exact ⟨rfl, rfl⟩

/-- When entries are surely over. -/
def Hx.overF (E : List Hx.Ent) (J : Nat) : Int := match E.getLast? with | some x => (x.t : Int) + J + x.hi | none => 0
set_option maxHeartbeats 1000000 in
theorem kover_any (E : List Hx.Ent) (J : Nat) (v : Value) (w : World) (hJ : J < 1000000000) (hE : Hx.EntS E) (hl : E.length ≤ 1000000) (ho : w.ownsRow 0 55 9 v E.length (entsCells E)) :
    Calls Tryd.prog 23 #[v, .int .i64 (J : Int)] w fun e w' => e = .returned (.int .i64 (Hx.overF E J)) ∧ Dr w w' := by
  obtain ⟨ao, cap, rfl⟩ := own_form ho
  cases hlast : E.getLast? with
  | none =>
    have hnil : E = [] := List.getLast?_eq_none_iff.1 hlast
    have hz : E.length = 0 := by rw [hnil]; rfl
    have HF : Hid (Hx.overF E J = 0) := by show _ = _; unfold Hx.overF; rw [hlast]
    rw [unhide HF, hz]
    clear ho hlast hnil hz hE hl HF
    go_enter Tryd.func23, Tryd.ntmps23
    go_wp2_with fail
    go_returns
    exact ⟨rfl, Dr.refl _⟩
  | some x =>
    have HF : Hid (Hx.overF E J = (x.t : Int) + J + x.hi) := by show _ = _; unfold Hx.overF; rw [hlast]
    have hx : E[E.length - 1]? = some x := by rw [List.getLast?_eq_getElem?] at hlast; exact hlast
    obtain ⟨s1, s2, s3, s4, s5, s6, s7, s8, s9, _, _⟩ := hE x (List.mem_of_getElem? hx)
    have hpos : 0 < E.length := by have := (List.getElem?_eq_some_iff.1 hx).1; omega
    obtain ⟨gt, capt, et, _, _⟩ := own_pos ho hpos
    cases et
    obtain ⟨n, hn⟩ : ∃ n, E.length = n + 1 := ⟨E.length - 1, by omega⟩
    rw [hn] at ho hx ⊢
    have hx' : E[n]? = some x := by simpa using hx
    have x2 : w.cell? ⟨gt, n * 9 + 2, none⟩ = some (.int .i64 (x.t : Int)) := own_at entCells 9 (fun _ => rfl) ho hn.symm n x hx' 2 (by omega)
    have x4 : w.cell? ⟨gt, n * 9 + 4, none⟩ = some (.int .i64 (x.hi : Int)) := own_at entCells 9 (fun _ => rfl) ho hn.symm n x hx' 4 (by omega)
    have hwI : IntKind.i64.wrap (((n + 1 : Nat) : Int) - 1) = (n : Int) := by
      rw [show ((n + 1 : Nat) : Int) - 1 = (n : Int) by omega]
      exact IntWalk.i64_in _ ⟨by omega, by omega⟩
    have hk1 : (0 : Int) ≤ (n : Int) := by omega
    have hk2 : (n : Int) < ((n + 1 : Nat) : Int) := by omega
    have hz0 : (((n + 1 : Nat) : Int) == 0) = false := by simp; omega
    rw [unhide HF]
    have hnl : n ≤ 1000000 := by omega
    clear ho hx hx' hlast hE hl hpos hn HF
    go_enter Tryd.func23, Tryd.ntmps23
    go_wp2_with fail
    go_quiet (fail)
    go_wp2_with fail
    go_returns
    refine ⟨rfl, ?_⟩
    first | exact Dr.refl _ | exact (Dr.refl _).more _ | exact ((Dr.refl _).more _).more _
end Go.Proofs.YtppcnlkhdgmaiaaDoor
namespace Go.Proofs.YtppcnlkhdgmaiaaDoor
namespace Hx

/-- Bounds, a step behind another, a plate, a protocol, as they are written. -/
def bB (lo hi : Nat) : List UInt8 := Lib.itoa (lo : Int) ++ [45] ++ Lib.itoa (hi : Int)
def joinR (x : Stp) : List UInt8 := if x.rest then [126] ++ bB x.mn x.mx ++ [126] else [44]
def contB (x : Stp) : List UInt8 := joinR x ++ bB x.lo x.hi
def openB (n : Nat) : List UInt8 := [59, UInt8.ofNat (97 + n), 61]
def plateB (n : Nat) : List Stp → List UInt8
  | [] => []
  | x :: r => openB n ++ bB x.lo x.hi ++ r.flatMap contB
def platesB : Nat → List (List Stp) → List UInt8
  | _, [] => []
  | n, q :: r => plateB n q ++ platesB (n + 1) r
def headB3 (J K D : Nat) : List UInt8 := [106] ++ Lib.itoa (J : Int) ++ [107] ++ Lib.itoa (K : Int) ++ [100] ++ Lib.itoa (D : Int)
def textB (J K D : Nat) (ps : List (List Stp)) : List UInt8 := headB3 J K D ++ platesB 0 ps
/-- A step as it can be written and read. -/
structure NS (x : Stp) : Prop where
  lo : x.lo < 1000
  hi : x.hi < 1000
  mn : x.mn < 1000
  mx : x.mx < 1000
  no : x.rest = false → x.mn = 0 ∧ x.mx = 0

theorem Tl.bounds {s : ByteArray} {p lo hi : Nat} {r : List UInt8} (h : Tl s p (bB lo hi ++ r)) (hr : noDig r) (h1 : lo < 1000) (h2 : hi < 1000) :
    ∃ q, boundsF s ⟨p, false⟩ = (⟨lo, hi⟩, ⟨q, false⟩) ∧ Tl s q r := by
  have h' : Tl s p (Lib.itoa (lo : Int) ++ (45 :: (Lib.itoa (hi : Int) ++ r))) := by
    have e : bB lo hi ++ r = Lib.itoa (lo : Int) ++ (45 :: (Lib.itoa (hi : Int) ++ r)) := by simp [bB]
    rw [← e]; exact h
  obtain ⟨e1, t1⟩ := h'.num (k := 2) (noDig_cons (by decide)) h1
  obtain ⟨e2, t2⟩ := t1.take (c := 45) (by rfl)
  obtain ⟨e3, t3⟩ := t2.num (k := 2) hr h2
  refine ⟨_, ?_, t3⟩
  unfold boundsF
  rw [e1]; dsimp only; rw [e2, e3]
/-- What may stand behind a step: nothing, or a sign that ends the plate. -/
def ends (r : List UInt8) : Prop := ∀ b, r[0]? = some b → b = 59
theorem ends_dig {r : List UInt8} (h : ends r) : noDig r := fun b hb => by rw [h b hb]; decide
theorem joinR_dig (x : Stp) (r : List UInt8) : noDig (joinR x ++ r) := by
  unfold joinR
  split
  · exact noDig_cons (by decide)
  · exact noDig_cons (by decide)
theorem cont_dig {q : List Stp} {r : List UInt8} (h : ends r) : noDig (q.flatMap contB ++ r) := by
  cases q with
  | nil => exact ends_dig h
  | cons x q =>
    rw [List.flatMap_cons, List.append_assoc, contB, List.append_assoc]
    exact joinR_dig x _
theorem after_read {s : ByteArray} {r : List UInt8} (hr : ends r) : ∀ (q : List Stp) (acc : List Stp) (p : Nat), (∀ x ∈ q, NS x) → Tl s p (q.flatMap contB ++ r) →
    ∃ p', afterF s ⟨p, false⟩ acc = (⟨p', false⟩, acc ++ q) ∧ Tl s p' r
  | [], acc, p, _, h => by
    have h0 : Tl s p r := h
    refine ⟨p, ?_, h0⟩
    rw [List.append_nil]
    cases r with
    | nil => exact afterF_stop (by show byteAt s p ≠ 44; rw [h0.none]; omega) (by show byteAt s p ≠ 126; rw [h0.none]; omega)
    | cons b r =>
      have := hr b rfl
      subst this
      exact afterF_stop (by show byteAt s p ≠ 44; rw [h0.byte]; decide) (by show byteAt s p ≠ 126; rw [h0.byte]; decide)
  | x :: q, acc, p, hx, h => by
    have hn := hx x (by simp)
    rw [List.flatMap_cons, List.append_assoc, contB, List.append_assoc] at h
    have hd : noDig (q.flatMap contB ++ r) := cont_dig hr
    cases hrest : x.rest with
    | false =>
      obtain ⟨m1, m2⟩ := hn.no hrest
      have e : joinR x = [44] := by simp [joinR, hrest]
      rw [e] at h
      obtain ⟨p1, e1, t1⟩ := Tl.bounds (h.next) hd hn.lo hn.hi
      have hc := afterF_comma (s := s) (st := ⟨p, false⟩) (acc := acc) rfl (by show byteAt s p = 44; rw [h.byte]; rfl)
      simp only [e1] at hc
      obtain ⟨p2, e2, t2⟩ := after_read hr q (acc ++ [⟨x.lo, x.hi, false, 0, 0⟩]) p1 (fun y hy => hx y (by simp [hy])) t1
      refine ⟨p2, ?_, t2⟩
      rw [hc, e2]
      have : x = ⟨x.lo, x.hi, false, 0, 0⟩ := by
        obtain ⟨a, b, c, d, f⟩ := x
        simp at hrest m1 m2
        simp [hrest, m1, m2]
      rw [this]; simp
    | true =>
      have e : joinR x = 126 :: (bB x.mn x.mx ++ [126]) := by simp [joinR, hrest]
      rw [e, List.cons_append, List.append_assoc] at h
      have hb : byteAt s p = 126 := by rw [h.byte]; rfl
      obtain ⟨e0, t0⟩ := h.take (c := 126) (by rfl)
      obtain ⟨p1, e1, t1⟩ := Tl.bounds t0 (noDig_cons (by decide)) hn.mn hn.mx
      obtain ⟨e2, t2⟩ := t1.take (c := 126) (by rfl)
      obtain ⟨p3, e3, t3⟩ := Tl.bounds t2 hd hn.lo hn.hi
      have hR : restF s ⟨p, false⟩ = (x, ⟨p3, false⟩) := by
        unfold restF
        rw [e0, e1]; dsimp only; rw [e2, e3]; dsimp only
        obtain ⟨a, b, c, d, f⟩ := x
        simp at hrest
        simp [hrest]
      have hc := afterF_rest (s := s) (st := ⟨p, false⟩) (acc := acc) rfl hb
      rw [hR] at hc
      obtain ⟨p4, e4, t4⟩ := after_read hr q (acc ++ [x]) p3 (fun y hy => hx y (by simp [hy])) t3
      refine ⟨p4, ?_, t4⟩
      rw [hc, e4]
      simp
/-- A plate: its first step has no rest. -/
def NP (q : List Stp) : Prop := (∃ x r, q = x :: r ∧ x.rest = false) ∧ ∀ x ∈ q, NS x
theorem plate_read {s : ByteArray} {r : List UInt8} (hr : ends r) {q : List Stp} {n p : Nat} (hn : n < 26) (hq : NP q) (h : Tl s p (plateB n q ++ r)) :
    ∃ p', plateF s n ⟨p, false⟩ = (⟨p', false⟩, q) ∧ Tl s p' r := by
  obtain ⟨⟨x, l, rfl, hrest⟩, hx⟩ := hq
  have h' : Tl s p (59 :: UInt8.ofNat (97 + n) :: 61 :: (bB x.lo x.hi ++ (l.flatMap contB ++ r))) := by
    have e : plateB n (x :: l) ++ r = 59 :: UInt8.ofNat (97 + n) :: 61 :: (bB x.lo x.hi ++ (l.flatMap contB ++ r)) := by simp [plateB, openB]
    rw [← e]; exact h
  have hns := hx x (by simp)
  obtain ⟨m1, m2⟩ := hns.no hrest
  obtain ⟨e1, t1⟩ := h'.take (c := 59) (by rfl)
  obtain ⟨e2, t2⟩ := t1.take (c := 97 + n) (ofNat_toNat (by omega))
  obtain ⟨e3, t3⟩ := t2.take (c := 61) (by rfl)
  have eo : openF s n ⟨p, false⟩ = ⟨p + 1 + 1 + 1, false⟩ := by
    unfold openF letterF
    rw [e1, if_pos hn, e2, e3]
  obtain ⟨p1, e4, t4⟩ := Tl.bounds t3 (cont_dig hr) hns.lo hns.hi
  obtain ⟨p2, e5, t5⟩ := after_read hr l [⟨x.lo, x.hi, false, 0, 0⟩] p1 (fun y hy => hx y (by simp [hy])) t4
  refine ⟨p2, ?_, t5⟩
  unfold plateF
  rw [eo, e4]; dsimp only; rw [e5]
  have : x = ⟨x.lo, x.hi, false, 0, 0⟩ := by
    obtain ⟨a, b, c, d, f⟩ := x
    simp at hrest m1 m2
    simp [hrest, m1, m2]
  rw [← this]; rfl
theorem plates_ends (n : Nat) (ps : List (List Stp)) (h : ∀ q ∈ ps, NP q) : ends (platesB n ps) := by
  cases ps with
  | nil => intro b hb; simp [platesB] at hb
  | cons q ps =>
    obtain ⟨⟨x, l, rfl, _⟩, _⟩ := h q (by simp)
    intro b hb
    simp [platesB, plateB, openB] at hb
    exact hb.symm
theorem plates_read {s : ByteArray} : ∀ (ps acc : List (List Stp)) (p : Nat), ps ≠ [] → acc.length + ps.length ≤ 26 → (∀ q ∈ ps, NP q) → Tl s p (platesB acc.length ps) →
    ∃ p', platesF s ⟨p, false⟩ acc = (⟨p', false⟩, acc ++ ps)
  | [], _, _, h, _, _, _ => absurd rfl h
  | q :: ps, acc, p, _, hl, hq, h => by
    rw [List.length_cons] at hl
    obtain ⟨p1, e1, t1⟩ := plate_read (plates_ends _ ps (fun y hy => hq y (by simp [hy]))) (by omega) (hq q (by simp)) h
    cases ps with
    | nil =>
      have t2 : Tl s p1 [] := t1
      exact ⟨p1, by rw [platesF_end (by rw [e1]) (by rw [e1]; exact t2.ge), e1]⟩
    | cons q2 ps =>
      obtain ⟨⟨x, l, e, _⟩, _⟩ := hq q2 (by simp)
      have hlt : p1 < s.size := by
        refine Tl.lt (b := 59) (r := UInt8.ofNat (97 + (acc.length + 1)) :: 61 :: (bB x.lo x.hi ++ (l.flatMap contB ++ platesB (acc.length + 1 + 1) ps))) ?_
        have e2 : platesB (acc.length + 1) (q2 :: ps) = 59 :: UInt8.ofNat (97 + (acc.length + 1)) :: 61 :: (bB x.lo x.hi ++ (l.flatMap contB ++ platesB (acc.length + 1 + 1) ps)) := by
          rw [e]; simp [platesB, plateB, openB]
        rw [← e2]; exact t1
      obtain ⟨p2, e2⟩ := plates_read (q2 :: ps) (acc ++ [q]) p1 (by simp) (by simp; simp at hl; omega) (fun y hy => hq y (by simp at hy ⊢; exact Or.inr hy)) (by rw [List.length_append]; exact t1)
      exact ⟨p2, by rw [platesF_more (by rw [e1]) (by rw [e1]; exact hlt), e1, e2]; simp⟩
/-- A protocol is read as what it was written of. -/
theorem text_read {J K D : Nat} {ps : List (List Stp)} (hJ : J < 10) (hK : K < 10) (hD : D < 10000) (h0 : ps ≠ []) (h26 : ps.length ≤ 26) (hp : ∀ q ∈ ps, NP q) {s : ByteArray} (hs : s = ⟨(textB J K D ps).toArray⟩) :
    (headJ s).1 = J ∧ (headK s).1 = K ∧ (headD s).1 = D ∧ (protF s).1.bad = false ∧ (protF s).2 = ps := by
  have h := Tl.start (textB J K D ps)
  rw [← hs] at h
  have h' : Tl s 0 (106 :: (Lib.itoa (J : Int) ++ (107 :: (Lib.itoa (K : Int) ++ (100 :: (Lib.itoa (D : Int) ++ platesB 0 ps)))))) := by
    have e : textB J K D ps = 106 :: (Lib.itoa (J : Int) ++ (107 :: (Lib.itoa (K : Int) ++ (100 :: (Lib.itoa (D : Int) ++ platesB 0 ps))))) := by simp [textB, headB3]
    rw [← e]; exact h
  obtain ⟨e1, t1⟩ := h'.take (c := 106) (by rfl)
  obtain ⟨e2, t2⟩ := t1.num (k := 0) (noDig_cons (by decide)) (by simpa using hJ)
  obtain ⟨e3, t3⟩ := t2.take (c := 107) (by rfl)
  obtain ⟨e4, t4⟩ := t3.num (k := 0) (noDig_cons (by decide)) (by simpa using hK)
  obtain ⟨e5, t5⟩ := t4.take (c := 100) (by rfl)
  obtain ⟨e6, t6⟩ := t5.num (k := 3) (ends_dig (plates_ends 0 ps hp)) (by simpa using hD)
  have j : headJ s = (J, ⟨0 + 1 + Lib.nDigits J, false⟩) := by unfold headJ; rw [e1, e2]
  have k : headK s = (K, ⟨0 + 1 + Lib.nDigits J + 1 + Lib.nDigits K, false⟩) := by unfold headK; rw [j]; dsimp only; rw [e3, e4]
  have d : headD s = (D, ⟨0 + 1 + Lib.nDigits J + 1 + Lib.nDigits K + 1 + Lib.nDigits D, false⟩) := by unfold headD; rw [k]; dsimp only; rw [e5, e6]
  obtain ⟨p', e7⟩ := plates_read ps [] _ h0 (by simpa using h26) hp t6
  refine ⟨by rw [j], by rw [k], by rw [d], ?_, ?_⟩
  · unfold protF; rw [d]; dsimp only; rw [e7]
  · unfold protF; rw [d]; dsimp only; rw [e7]; rfl
/-- What Check says of it. -/
theorem text_check {J K D : Nat} {ps : List (List Stp)} (hJ : J < 10) (hK : K < 10) (hD : D < 10000) (h0 : ps ≠ []) (h4 : ps.length ≤ 4) (h5 : ∀ q ∈ ps, q.length ≤ 5) (h9 : ps.flatten.length ≤ 9) (hp : ∀ q ∈ ps, NP q)
    (hw : ∀ q ∈ ps, ∀ x ∈ q, wrongB K x = false) {s : ByteArray} (hs : s = ⟨(textB J K D ps).toArray⟩) : checkF s = if 120 < s.size then (1, 0) else (0, 0) := by
  obtain ⟨_, e2, _, e4, e5⟩ := text_read hJ hK hD h0 (by omega) hp hs
  unfold checkF
  split
  · rfl
  · rw [if_neg (by rw [e4]; simp), e2, e5]
    unfold verdict
    have hf : firstWrong K ps = none := by
      unfold firstWrong
      rw [List.findIdx?_eq_none_iff]
      intro x hx
      obtain ⟨q, hq, hxq⟩ := List.mem_flatten.1 hx
      exact hw q hq x hxq
    have hm : manyB ps = false := by
      unfold manyB
      simp only [Bool.or_eq_false_iff, List.any_eq_false, decide_eq_true_eq, decide_eq_false_iff_not]
      exact ⟨⟨fun q hq => by have := h5 q hq; omega, by omega⟩, by omega⟩
    rw [hf, hm]
    rfl
end Hx
end Go.Proofs.YtppcnlkhdgmaiaaDoor
namespace Go.Proofs.YtppcnlkhdgmaiaaDoor
open Go.RowKit

namespace Hx
/-- What is written of a step of a plan. -/
def lstB (y : Lst) : List UInt8 := (if y.no = 0 then openB y.pl else joinR y.x) ++ bB y.x.lo y.x.hi
def textL (J K D : Nat) (L : List Lst) : List UInt8 := headB3 J K D ++ L.flatMap lstB
theorem lab_cons (n : Nat) (x : Stp) (r : List Stp) : lab n (x :: r) = ⟨n, 0, x⟩ :: (r.mapIdx fun j y => (⟨n, j + 1, y⟩ : Lst)) := by
  simp [lab, List.mapIdx_cons]
theorem cont_lst (n : Nat) : ∀ (r : List Stp) (k : Nat), (r.mapIdx fun j y => (⟨n, j + (k + 1), y⟩ : Lst)).flatMap lstB = r.flatMap contB
  | [], _ => rfl
  | x :: r, k => by
    rw [List.mapIdx_cons, List.flatMap_cons, List.flatMap_cons]
    have e : (fun (i : Nat) (y : Stp) => (⟨n, i + 1 + (k + 1), y⟩ : Lst)) = fun i y => ⟨n, i + (k + 1 + 1), y⟩ := by
      funext i y; congr 1; omega
    rw [e, cont_lst n r (k + 1)]
    have e2 : lstB ⟨n, 0 + (k + 1), x⟩ = contB x := by simp [lstB, contB]
    rw [e2]
theorem plate_lst (n : Nat) (q : List Stp) : (lab n q).flatMap lstB = plateB n q := by
  cases q with
  | nil => rfl
  | cons x r =>
    rw [lab_cons, List.flatMap_cons, cont_lst n r 0, plateB]
    simp [lstB]
theorem plates_lst : ∀ (ps : List (List Stp)) (n : Nat), ((ps.mapIdx fun i q => lab (i + n) q).flatten).flatMap lstB = platesB n ps
  | [], _ => rfl
  | q :: ps, n => by
    rw [List.mapIdx_cons, List.flatten_cons, List.flatMap_append, platesB, Nat.zero_add, plate_lst]
    have e : (fun (i : Nat) (q : List Stp) => lab (i + 1 + n) q) = fun i q => lab (i + (n + 1)) q := by
      funext i q; congr 1; omega
    rw [e, plates_lst ps (n + 1)]
theorem text_lst (J K D : Nat) (ps : List (List Stp)) : textL J K D (labs ps) = textB J K D ps := by
  unfold textL textB
  have := plates_lst ps 0
  simp only [Nat.add_zero] at this
  rw [← this]
  rfl
end Hx

/-- A step of a plan: seven cells. -/
def kstCells (y : Hx.Lst) : List Value := [.int .i64 (y.pl : Int), .int .i64 (y.no : Int), .int .i64 (y.x.lo : Int), .int .i64 (y.x.hi : Int), .bool y.x.rest, .int .i64 (y.x.mn : Int), .int .i64 (y.x.mx : Int)]
def ksCells (l : List Hx.Lst) : List Value := l.flatMap kstCells
theorem ksCells_snoc (l : List Hx.Lst) (y : Hx.Lst) : ksCells (l ++ [y]) = ksCells l ++ kstCells y := by simp [ksCells]
theorem kstCells_one (y : Hx.Lst) : ∀ u ∈ kstCells y, u.oneCell' = true := by
  intro u hu
  simp [kstCells] at hu
  rcases hu with rfl | rfl | rfl | rfl | rfl | rfl | rfl <;> rfl
theorem Tryd.infoKst : (Tryd.prog.info? 39).map (fun i => (i.zero, i.size, i.bytes)) = some (some (.agg #[.int .i64 0, .int .i64 0, .int .i64 0, .int .i64 0, .bool false, .int .i64 0, .int .i64 0]), 7, 56) := by kernel_rfl
/-- A plan, as it is handed on. -/
abbrev planV (J K D : Nat) (v : Value) : Value := .agg #[.int .i64 (J : Int), .int .i64 (K : Int), .int .i64 (D : Int), v]
/-- What a plan's steps are like. -/
structure KS (y : Hx.Lst) : Prop where
  pl : y.pl < 4
  no : y.no < 10
  lo : y.x.lo < 1000
  hi : y.x.hi < 1000
  mn : y.x.mn < 1000
  mx : y.x.mx < 1000

theorem bQ {w : World} {k : Nat} {x : Obj} (n : Nat) (h : w.heap[k]? = some x) : (w.drewN n).heap[k]? = some x := h
theorem letter4_ext : ∀ d, d < 4 → (⟨#[97, 98, 99, 100]⟩ : ByteArray).extract d (d + 1) = ⟨#[UInt8.ofNat (97 + d)]⟩ := by decide

theorem kdec_gen (z : Int) (w : World) (h0 : 0 ≤ z) (h1 : z ≤ 1000000) : Calls Tryd.prog 18 #[.int .i64 z] w fun e w' => e = .returned (.string ⟨(Lib.itoa z).toArray⟩) ∧ w' = w := by
  have e1 : z = (z.toNat : Int) := by omega
  rw [e1]; exact kdec_as z.toNat _ w (by omega) rfl
theorem head3_is (J K D : Nat) :
    (⟨#[106]⟩ ++ ⟨(Lib.itoa (J : Int)).toArray⟩ ++ ⟨#[107]⟩ ++ ⟨(Lib.itoa (K : Int)).toArray⟩ ++ ⟨#[100]⟩ ++ ⟨(Lib.itoa (D : Int)).toArray⟩ : ByteArray) = ⟨(Hx.headB3 J K D).toArray⟩ := by
  apply ByteArray.ext
  simp [Hx.headB3]
theorem head3_len {J K D : Nat} (hJ : J ≤ 1000000) (hK : K ≤ 1000000) (hD : D ≤ 1000000) : (Hx.headB3 J K D).length ≤ 30 := by
  have a := Hx.itoa_seven hJ
  have b := Hx.itoa_seven hK
  have c := Hx.itoa_seven hD
  simp [Hx.headB3]
  omega
theorem textL_snoc (J K D : Nat) (L : List Hx.Lst) (i : Nat) (y : Hx.Lst) (h : L[i]? = some y) : Hx.textL J K D (L.take (i + 1)) = Hx.textL J K D (L.take i) ++ Hx.lstB y := by
  unfold Hx.textL
  rw [List.take_add_one, h]
  simp
theorem lst_len {y : Hx.Lst} (h : KS y) : (Hx.lstB y).length ≤ 40 := by
  have a := Hx.itoa_seven (n := y.x.lo) (by have := h.lo; omega)
  have b := Hx.itoa_seven (n := y.x.hi) (by have := h.hi; omega)
  have c := Hx.itoa_seven (n := y.x.mn) (by have := h.mn; omega)
  have d := Hx.itoa_seven (n := y.x.mx) (by have := h.mx; omega)
  unfold Hx.lstB Hx.joinR Hx.openB Hx.bB
  split
  · simp; omega
  · split <;> simp <;> omega

theorem textL_len {J K D : Nat} (hJ : J ≤ 1000000) (hK : K ≤ 1000000) (hD : D ≤ 1000000) : ∀ (L : List Hx.Lst), (∀ y ∈ L, KS y) → (Hx.textL J K D L).length ≤ 30 + 40 * L.length := by
  intro L hL
  have h1 := head3_len hJ hK hD
  have h2 : (L.flatMap Hx.lstB).length ≤ 40 * L.length := by
    clear h1
    induction L with
    | nil => simp
    | cons y L ih =>
      have a := lst_len (hL y (by simp))
      have b := ih (fun z hz => hL z (by simp [hz]))
      rw [List.flatMap_cons, List.length_append, List.length_cons]
      omega
  unfold Hx.textL
  rw [List.length_append]
  omega

set_option maxRecDepth 100000 in
set_option maxHeartbeats 2000000 in
theorem text_any (J K D : Nat) (L : List Hx.Lst) (v : Value) (w : World) (hJ : J ≤ 1000000) (hK : K ≤ 1000000) (hD : D ≤ 1000000) (hL : ∀ y ∈ L, KS y) (hl : L.length ≤ 1000)
    (ho : w.ownsRow 0 39 7 v L.length (ksCells L)) :
    Calls Tryd.prog 13 #[planV J K D v] w fun e w' => e = .returned (.string ⟨(Hx.textL J K D L).toArray⟩) ∧ Below w.heap.size w w' := by
  obtain ⟨ao, cap, rfl⟩ := own_form ho
  have sj := Hx.itoa_seven hJ
  have sk := Hx.itoa_seven hK
  have sd := Hx.itoa_seven hD
  have HO := hide ho
  have HL := hide hL
  clear ho hL
  have n1 : ¬ 9223372036854775807 < 1 + (Lib.itoa (J : Int)).length := by omega
  have n2 : ¬ 9223372036854775807 < 1 + (Lib.itoa (J : Int)).length + 1 := by omega
  have n3 : ¬ 9223372036854775807 < 1 + (Lib.itoa (J : Int)).length + 1 + (Lib.itoa (K : Int)).length := by omega
  have n4 : ¬ 9223372036854775807 < 1 + (Lib.itoa (J : Int)).length + 1 + (Lib.itoa (K : Int)).length + 1 := by omega
  have n5 : ¬ 9223372036854775807 < 1 + (Lib.itoa (J : Int)).length + 1 + (Lib.itoa (K : Int)).length + 1 + (Lib.itoa (D : Int)).length := by omega
  have j0 : (0 : Int) ≤ (J : Int) := by omega
  have j1 : (J : Int) ≤ 1000000 := by omega
  have k0 : (0 : Int) ≤ (K : Int) := by omega
  have k1 : (K : Int) ≤ 1000000 := by omega
  have d0 : (0 : Int) ≤ (D : Int) := by omega
  have d1 : (D : Int) ≤ 1000000 := by omega
  have HB0 := hide ((Below.refl w.heap.size w).alloc (Nat.le_refl _) (.cells #[.int .i64 (J : Int), .int .i64 (K : Int), .int .i64 (D : Int), .slice ao L.length cap] 28))
  have HP0 := hide (blk_new w #[.int .i64 (J : Int), .int .i64 (K : Int), .int .i64 (D : Int), .slice ao L.length cap] 28)
  go_enter Tryd.func13, Tryd.ntmps13
  go_upto_region 1 with fail
  generalize w.alloc (.cells #[.int .i64 (J : Int), .int .i64 (K : Int), .int .i64 (D : Int), .slice ao L.length cap] 28) = w1 at HB0 HP0 ⊢
  have p0 : w1.cell? ⟨w.heap.size, 0, none⟩ = some (.int .i64 (J : Int)) := blk_cell (unhide HP0) 0
  have p1 : w1.cell? ⟨w.heap.size, 1, none⟩ = some (.int .i64 (K : Int)) := blk_cell (unhide HP0) 1
  have p2 : w1.cell? ⟨w.heap.size, 2, none⟩ = some (.int .i64 (D : Int)) := blk_cell (unhide HP0) 2
  go_quiet ((go_at_call 18; refine Calls.quiet_of_same (kdec_gen _ _ (by assumption) (by assumption))))
  go_upto_region 2 with fail
  clear n1 n2 n3 n4 n5 j0 j1 k0 k1 d0 d1 p0 p1 p2
  go_wp2_with fail
  go_loopg [3, 4] L.length (fun gk ts ii wr => ∃ i : Nat, i ≤ L.length ∧ gk = L.length - i ∧ ii = .int .i64 (i : Int) ∧ ts = .string ⟨(Hx.textL J K D (L.take i)).toArray⟩ ∧ wr.heap[w.heap.size]? = some (.cells #[.int .i64 (J : Int), .int .i64 (K : Int), .int .i64 (D : Int), .slice ao L.length cap] 28 (0, 0)) ∧ Below w.heap.size w wr)
  case atStart => exact ⟨0, Nat.zero_le _, rfl, rfl, by rw [head3_is]; simp [Hx.textL], unhide HP0, below_drewN (unhide HB0) _⟩
  case round =>
    clear HP0 HB0
    obtain ⟨i, hi, rfl, rfl, rfl, hblk, hbe⟩ := hrel
    have p3 : wr.cell? ⟨w.heap.size, 3, none⟩ = some (.slice ao L.length cap) := blk_cell hblk 3
    have HBLK := hide hblk
    have HBE := hide hbe
    clear hblk hbe
    by_cases hlt : i < L.length
    · have hltI : (i : Int) < (L.length : Int) := by omega
      obtain ⟨y, hy⟩ : ∃ y, L[i]? = some y := ⟨L[i], List.getElem?_eq_getElem hlt⟩
      have HKS := hide (unhide HL y (List.mem_of_getElem? hy))
      obtain ⟨gs, caps, es, _, hgs⟩ := own_pos (unhide HO) (by omega)
      cases es
      have cx : ∀ t, t < 7 → wr.cell? ⟨gs, i * 7 + t, none⟩ = (kstCells y)[t]? := fun t h => by
        rw [(unhide HBE).cell (p := ⟨gs, i * 7 + t, none⟩) hgs]; exact own_at kstCells 7 (fun _ => rfl) (unhide HO) rfl i y hy t h
      have x0 : wr.cell? ⟨gs, i * 7, none⟩ = some (.int .i64 (y.pl : Int)) := cx 0 (by omega)
      have x1 : wr.cell? ⟨gs, i * 7 + 1, none⟩ = some (.int .i64 (y.no : Int)) := cx 1 (by omega)
      have x2 : wr.cell? ⟨gs, i * 7 + 2, none⟩ = some (.int .i64 (y.x.lo : Int)) := cx 2 (by omega)
      have x3 : wr.cell? ⟨gs, i * 7 + 3, none⟩ = some (.int .i64 (y.x.hi : Int)) := cx 3 (by omega)
      have x4 : wr.cell? ⟨gs, i * 7 + 4, none⟩ = some (.bool y.x.rest) := cx 4 (by omega)
      have x5 : wr.cell? ⟨gs, i * 7 + 5, none⟩ = some (.int .i64 (y.x.mn : Int)) := cx 5 (by omega)
      have x6 : wr.cell? ⟨gs, i * 7 + 6, none⟩ = some (.int .i64 (y.x.mx : Int)) := cx 6 (by omega)
      have HSN := hide (textL_snoc J K D L i y hy)
      have htl := textL_len hJ hK hD (L.take i) (fun z hz => unhide HL z (List.mem_of_mem_take hz))
      have htk : (L.take i).length ≤ 1000 := by rw [List.length_take]; omega
      obtain ⟨tl, htle⟩ : ∃ tl, tl = Hx.textL J K D (L.take i) := ⟨_, rfl⟩
      rw [← htle] at HSN htl ⊢
      obtain ⟨tA, htA⟩ : ∃ tA : ByteArray, tA = ⟨tl.toArray⟩ := ⟨_, rfl⟩
      have hsz : tA.size ≤ 100000 := by rw [htA]; show tl.length ≤ _; omega
      rw [← htA]
      have HTA := hide htA
      clear cx htl htk htle htA hy
      go_upto_region 7 with fail
      have HX := hide (bN #[.int .i64 (y.pl : Int), .int .i64 (y.no : Int), .int .i64 (y.x.lo : Int), .int .i64 (y.x.hi : Int), .bool y.x.rest, .int .i64 (y.x.mn : Int), .int .i64 (y.x.mx : Int)] 39 (w := wr) rfl)
      have HBLK1 := hide (bA (.cells #[.int .i64 (y.pl : Int), .int .i64 (y.no : Int), .int .i64 (y.x.lo : Int), .int .i64 (y.x.hi : Int), .bool y.x.rest, .int .i64 (y.x.mn : Int), .int .i64 (y.x.mx : Int)] 39) (unhide HBLK))
      have HBE1 := hide (belA (.cells #[.int .i64 (y.pl : Int), .int .i64 (y.no : Int), .int .i64 (y.x.lo : Int), .int .i64 (y.x.hi : Int), .bool y.x.rest, .int .i64 (y.x.mn : Int), .int .i64 (y.x.mx : Int)] 39) (unhide HBE))
      obtain ⟨tb, htb⟩ : ∃ tb, tb = wr.heap.size := ⟨_, rfl⟩
      rw [← htb] at HX ⊢
      clear HBLK HBE x0 x1 x2 x3 x4 x5 x6 htb p3
      generalize wr.alloc (.cells #[.int .i64 (y.pl : Int), .int .i64 (y.no : Int), .int .i64 (y.x.lo : Int), .int .i64 (y.x.hi : Int), .bool y.x.rest, .int .i64 (y.x.mn : Int), .int .i64 (y.x.mx : Int)] 39) = wx at HX HBLK1 HBE1 ⊢
      have z0 : wx.cell? ⟨tb, 0, none⟩ = some (.int .i64 (y.pl : Int)) := blk_cell (unhide HX) 0
      have z1 : wx.cell? ⟨tb, 1, none⟩ = some (.int .i64 (y.no : Int)) := blk_cell (unhide HX) 1
      have z2 : wx.cell? ⟨tb, 2, none⟩ = some (.int .i64 (y.x.lo : Int)) := blk_cell (unhide HX) 2
      have z3 : wx.cell? ⟨tb, 3, none⟩ = some (.int .i64 (y.x.hi : Int)) := blk_cell (unhide HX) 3
      have z4 : wx.cell? ⟨tb, 4, none⟩ = some (.bool y.x.rest) := blk_cell (unhide HX) 4
      have z5 : wx.cell? ⟨tb, 5, none⟩ = some (.int .i64 (y.x.mn : Int)) := blk_cell (unhide HX) 5
      have z6 : wx.cell? ⟨tb, 6, none⟩ = some (.int .i64 (y.x.mx : Int)) := blk_cell (unhide HX) 6
      have b1 := (unhide HKS).lo
      have b2 := (unhide HKS).hi
      have b3 := (unhide HKS).mn
      have b4 := (unhide HKS).mx
      have l1 := Hx.itoa_seven (n := y.x.lo) (by omega)
      have l2 := Hx.itoa_seven (n := y.x.hi) (by omega)
      have l3 := Hx.itoa_seven (n := y.x.mn) (by omega)
      have l4 := Hx.itoa_seven (n := y.x.mx) (by omega)
      have lo0 : (0 : Int) ≤ (y.x.lo : Int) := by omega
      have lo1 : (y.x.lo : Int) ≤ 1000000 := by omega
      have hi0 : (0 : Int) ≤ (y.x.hi : Int) := by omega
      have hi1 : (y.x.hi : Int) ≤ 1000000 := by omega
      have mn0 : (0 : Int) ≤ (y.x.mn : Int) := by omega
      have mn1 : (y.x.mn : Int) ≤ 1000000 := by omega
      have mx0 : (0 : Int) ≤ (y.x.mx : Int) := by omega
      have mx1 : (y.x.mx : Int) ≤ 1000000 := by omega
      clear b1 b2 b3 b4
      by_cases hno : y.no = 0
      · have hnoI : ((y.no : Int) == 0) = true := by simp [hno]
        have hpl := (unhide HKS).pl
        have plI : (y.pl : Int) < 4 := by omega
        have pl0 : (0 : Int) ≤ (y.pl : Int) := by omega
        have HCAT : Hid (tA ++ ⟨#[59]⟩ ++ (⟨#[97, 98, 99, 100]⟩ : ByteArray).extract y.pl (y.pl + 1) ++ ⟨#[61]⟩ ++ ⟨(Lib.itoa (y.x.lo : Int)).toArray⟩ ++ ⟨#[45]⟩ ++ ⟨(Lib.itoa (y.x.hi : Int)).toArray⟩ = ⟨(tl ++ Hx.lstB y).toArray⟩) := by
          show _ = _
          rw [unhide HTA, letter4_ext _ hpl]
          apply ByteArray.ext
          simp [Hx.lstB, hno, Hx.openB, Hx.bB]
        have hex : ((⟨#[97, 98, 99, 100]⟩ : ByteArray).extract y.pl (y.pl + 1)).size = 1 := by rw [letter4_ext _ hpl]; rfl
        obtain ⟨ex, hexd⟩ : ∃ ex, ex = (⟨#[97, 98, 99, 100]⟩ : ByteArray).extract y.pl (y.pl + 1) := ⟨_, rfl⟩
        rw [← hexd] at HCAT hex
        have HEX := hide hexd
        have m1 : ¬ 9223372036854775807 < tA.size + 1 := by omega
        clear hno hexd
        go_wp2_with fail
        rw [← unhide HEX]
        have hexl : ex.size ≤ 1 := by omega
        have m2 : ¬ 9223372036854775807 < tA.size + 1 + ex.size + 1 + (Lib.itoa (y.x.lo : Int)).length := by omega
        have m3 : ¬ 9223372036854775807 < tA.size + 1 + ex.size + 1 + (Lib.itoa (y.x.lo : Int)).length + 1 := by omega
        have m4 : ¬ 9223372036854775807 < tA.size + 1 + ex.size + 1 + (Lib.itoa (y.x.lo : Int)).length + 1 + (Lib.itoa (y.x.hi : Int)).length := by omega
        clear hex
        go_quiet ((go_at_call 18; refine Calls.quiet_of_same (kdec_gen _ _ (by assumption) (by assumption))))
        go_wp2_with fail
        go_roundg (L.length - (i + 1))
        case measure => omega
        case rel =>
          refine ⟨i + 1, by omega, rfl, by go_num, ?_, bQ _ (unhide HBLK1), below_drewN (unhide HBE1) _⟩
          rw [unhide HSN, ← unhide HCAT]
      · have hnoI : ((y.no : Int) == 0) = false := by simp [hno]
        cases hrest : y.x.rest with
        | true =>
          rw [hrest] at z4
          have HCAT : Hid (tA ++ ⟨#[126]⟩ ++ ⟨(Lib.itoa (y.x.mn : Int)).toArray⟩ ++ ⟨#[45]⟩ ++ ⟨(Lib.itoa (y.x.mx : Int)).toArray⟩ ++ ⟨#[126]⟩ ++ ⟨(Lib.itoa (y.x.lo : Int)).toArray⟩ ++ ⟨#[45]⟩ ++ ⟨(Lib.itoa (y.x.hi : Int)).toArray⟩ = ⟨(tl ++ Hx.lstB y).toArray⟩) := by
            show _ = _
            rw [unhide HTA]
            apply ByteArray.ext
            simp [Hx.lstB, hno, hrest, Hx.joinR, Hx.bB]
          have m1 : ¬ 9223372036854775807 < tA.size + 1 := by omega
          have m2 : ¬ 9223372036854775807 < tA.size + 1 + (Lib.itoa (y.x.mn : Int)).length := by omega
          have m3 : ¬ 9223372036854775807 < tA.size + 1 + (Lib.itoa (y.x.mn : Int)).length + 1 := by omega
          have m4 : ¬ 9223372036854775807 < tA.size + 1 + (Lib.itoa (y.x.mn : Int)).length + 1 + (Lib.itoa (y.x.mx : Int)).length := by omega
          have m5 : ¬ 9223372036854775807 < tA.size + 1 + (Lib.itoa (y.x.mn : Int)).length + 1 + (Lib.itoa (y.x.mx : Int)).length + 1 := by omega
          have m6 : ¬ 9223372036854775807 < tA.size + 1 + (Lib.itoa (y.x.mn : Int)).length + 1 + (Lib.itoa (y.x.mx : Int)).length + 1 + (Lib.itoa (y.x.lo : Int)).length := by omega
          have m7 : ¬ 9223372036854775807 < tA.size + 1 + (Lib.itoa (y.x.mn : Int)).length + 1 + (Lib.itoa (y.x.mx : Int)).length + 1 + (Lib.itoa (y.x.lo : Int)).length + 1 := by omega
          have m8 : ¬ 9223372036854775807 < tA.size + 1 + (Lib.itoa (y.x.mn : Int)).length + 1 + (Lib.itoa (y.x.mx : Int)).length + 1 + (Lib.itoa (y.x.lo : Int)).length + 1 + (Lib.itoa (y.x.hi : Int)).length := by omega
          clear hno hrest
          go_wp2_with fail
          go_quiet ((go_at_call 18; refine Calls.quiet_of_same (kdec_gen _ _ (by assumption) (by assumption))))
          go_wp2_with fail
          generalize hwy : World.drewN wx _ = wy
          have y2 : wy.cell? ⟨tb, 2, none⟩ = some (.int .i64 (y.x.lo : Int)) := by rw [← hwy]; exact z2
          have y3 : wy.cell? ⟨tb, 3, none⟩ = some (.int .i64 (y.x.hi : Int)) := by rw [← hwy]; exact z3
          have HBLK2 : Hid (wy.heap[w.heap.size]? = some (.cells #[.int .i64 (J : Int), .int .i64 (K : Int), .int .i64 (D : Int), .slice (some ⟨gs, 0, none⟩) L.length cap] 28 (0, 0))) := by rw [← hwy]; exact unhide HBLK1
          have HBE2 : Hid (Below w.heap.size w wy) := by rw [← hwy]; exact below_drewN (unhide HBE1) _
          clear z0 z1 z2 z3 z4 z5 z6 hwy HX HBLK1 HBE1
          go_quiet ((go_at_call 18; refine Calls.quiet_of_same (kdec_gen _ _ (by assumption) (by assumption))))
          go_wp2_with fail
          go_roundg (L.length - (i + 1))
          case measure => omega
          case rel =>
            refine ⟨i + 1, by omega, rfl, by go_num, ?_, bQ _ (unhide HBLK2), below_drewN (unhide HBE2) _⟩
            rw [unhide HSN, ← unhide HCAT]
        | false =>
          rw [hrest] at z4
          have HCAT : Hid (tA ++ ⟨#[44]⟩ ++ ⟨(Lib.itoa (y.x.lo : Int)).toArray⟩ ++ ⟨#[45]⟩ ++ ⟨(Lib.itoa (y.x.hi : Int)).toArray⟩ = ⟨(tl ++ Hx.lstB y).toArray⟩) := by
            show _ = _
            rw [unhide HTA]
            apply ByteArray.ext
            simp [Hx.lstB, hno, hrest, Hx.joinR, Hx.bB]
          have m1 : ¬ 9223372036854775807 < tA.size + 1 := by omega
          have m2 : ¬ 9223372036854775807 < tA.size + 1 + (Lib.itoa (y.x.lo : Int)).length := by omega
          have m3 : ¬ 9223372036854775807 < tA.size + 1 + (Lib.itoa (y.x.lo : Int)).length + 1 := by omega
          have m4 : ¬ 9223372036854775807 < tA.size + 1 + (Lib.itoa (y.x.lo : Int)).length + 1 + (Lib.itoa (y.x.hi : Int)).length := by omega
          clear hno hrest
          go_wp2_with fail
          go_quiet ((go_at_call 18; refine Calls.quiet_of_same (kdec_gen _ _ (by assumption) (by assumption))))
          go_wp2_with fail
          go_roundg (L.length - (i + 1))
          case measure => omega
          case rel =>
            refine ⟨i + 1, by omega, rfl, by go_num, ?_, bQ _ (unhide HBLK1), below_drewN (unhide HBE1) _⟩
            rw [unhide HSN, ← unhide HCAT]
    · have hltI : ¬ (i : Int) < (L.length : Int) := by omega
      go_wp2_with fail
      go_returns
      rw [show L.take i = L from List.take_of_length_le (by omega)]
      exact ⟨rfl, unhide HBE⟩
end Go.Proofs.YtppcnlkhdgmaiaaDoor
namespace Go.Proofs.YtppcnlkhdgmaiaaDoor
open Go.RowKit

/-- Which of n things a raw number speaks of. -/
def Hx.pickN (c : Int) (n : Nat) : Nat := (if c < 0 then (-(c + 1)).toNat else c.toNat) % n
theorem Hx.pickN_lt (c : Int) {n : Nat} (hn : 0 < n) : Hx.pickN c n < n := Nat.mod_lt _ hn

set_option maxHeartbeats 1000000 in
theorem pick_any (c : Int) (n : Nat) (w : World) (h1 : -9223372036854775808 ≤ c) (h2 : c ≤ 9223372036854775807) (hn : 0 < n) (hn2 : n ≤ 9223372036854775807) :
    Calls Tryd.prog 15 #[.int .i64 c, .int .i64 (n : Int)] w fun e w' => e = .returned (.int .i64 (Hx.pickN c n : Int)) ∧ w' = w := by
  go_enter Tryd.func15, Tryd.ntmps15
  have hnz : (n : Int) ≠ 0 := by omega
  by_cases hc : c < 0
  · have e1 : (Hx.pickN c n : Int) = Int.tmod (-(c + 1)) (n : Int) := by
      unfold Hx.pickN
      rw [if_pos hc]
      obtain ⟨m, hm⟩ : ∃ m : Nat, -(c + 1) = (m : Int) := ⟨(-(c + 1)).toNat, by omega⟩
      rw [hm, Int.toNat_natCast]
      rfl
    have HE := hide e1
    clear e1
    go_wp2_with fail
    go_returns
    refine ⟨ret_int ?_, rfl⟩
    rw [unhide HE, Int.neg_tmod]
  · have e1 : (Hx.pickN c n : Int) = Int.tmod c (n : Int) := by
      unfold Hx.pickN
      rw [if_neg hc]
      obtain ⟨m, rfl⟩ : ∃ m : Nat, c = (m : Int) := ⟨c.toNat, by omega⟩
      rw [Int.toNat_natCast]
      rfl
    have HE := hide e1
    clear e1
    go_wp2_with fail
    go_returns
    refine ⟨ret_int ?_, rfl⟩
    rw [unhide HE, Int.tmod_eq_emod_of_nonneg (by omega)]

end Go.Proofs.YtppcnlkhdgmaiaaDoor
namespace Go.Proofs.YtppcnlkhdgmaiaaDoor
open Go.RowKit

namespace Hx
/-- A step of raw numbers. -/
structure Raw where
  lo : Int
  more : Int
  rest : Int
  mn : Int
  wide : Int
def restOf (i : Nat) (x : Raw) : Bool := decide (0 < i) && decide (pickN x.rest 2 = 1)
def stpOf (i : Nat) (x : Raw) : Stp :=
  ⟨1 + pickN x.lo 40, 1 + pickN x.lo 40 + pickN x.more 20, restOf i x, if restOf i x then pickN x.mn 40 else 0, if restOf i x then pickN x.mn 40 + pickN x.wide 80 else 0⟩
/-- What of a plate's raw steps is taken. -/
def plateOf (room : Nat) (q : List Raw) : List Stp := (q.take (min 5 room)).mapIdx stpOf
def shapeF : List (List Raw) → List (List Stp) → List (List Stp)
  | [], acc => acc
  | q :: qs, acc => if acc.length < 4 then (if plateOf (9 - (labs acc).length) q = [] then shapeF qs acc else shapeF qs (acc ++ [plateOf (9 - (labs acc).length) q])) else acc
def oneStp : Stp := ⟨1, 1, false, 0, 0⟩
def shapeP (qs : List (List Raw)) : List (List Stp) := if shapeF qs [] = [] then [[oneStp]] else shapeF qs []
theorem plateOf_len (room : Nat) (q : List Raw) : (plateOf room q).length = min (min 5 room) q.length := by simp [plateOf]
theorem plateOf_at {room : Nat} {q : List Raw} {i : Nat} {x : Raw} (hx : q[i]? = some x) (hi : i < min 5 room) : (plateOf room q)[i]? = some (stpOf i x) := by
  simp [plateOf, List.getElem?_take]
  exact ⟨x, ⟨by omega, hx⟩, rfl⟩
theorem stpOf_ok (i : Nat) (x : Raw) : 1 ≤ (stpOf i x).lo ∧ (stpOf i x).lo ≤ 40 ∧ (stpOf i x).lo ≤ (stpOf i x).hi ∧ (stpOf i x).hi ≤ 59 ∧ (stpOf i x).mn ≤ (stpOf i x).mx ∧ (stpOf i x).mn ≤ 39 ∧ (stpOf i x).mx ≤ 118 ∧ ((stpOf i x).rest = false → (stpOf i x).mn = 0 ∧ (stpOf i x).mx = 0) := by
  have a := pickN_lt x.lo (n := 40) (by omega)
  have b := pickN_lt x.more (n := 20) (by omega)
  have c := pickN_lt x.mn (n := 40) (by omega)
  have d := pickN_lt x.wide (n := 80) (by omega)
  unfold stpOf
  simp only
  cases restOf i x
  · simp; omega
  · simp; omega
/-- What is known of the plan of a shape. -/
structure GoodS (ps : List (List Stp)) : Prop where
  pos : ps ≠ []
  four : ps.length ≤ 4
  five : ∀ q ∈ ps, q.length ≤ 5
  nine : (labs ps).length ≤ 9
  head : ∀ q ∈ ps, ∃ x r, q = x :: r ∧ x.rest = false
  stp : ∀ q ∈ ps, ∀ x ∈ q, 1 ≤ x.lo ∧ x.lo ≤ 40 ∧ x.lo ≤ x.hi ∧ x.hi ≤ 59 ∧ x.mn ≤ x.mx ∧ x.mn ≤ 39 ∧ x.mx ≤ 118 ∧ (x.rest = false → x.mn = 0 ∧ x.mx = 0)
structure GoodA (ps : List (List Stp)) : Prop where
  four : ps.length ≤ 4
  five : ∀ q ∈ ps, q.length ≤ 5
  nine : (labs ps).length ≤ 9
  head : ∀ q ∈ ps, ∃ x r, q = x :: r ∧ x.rest = false
  stp : ∀ q ∈ ps, ∀ x ∈ q, 1 ≤ x.lo ∧ x.lo ≤ 40 ∧ x.lo ≤ x.hi ∧ x.hi ≤ 59 ∧ x.mn ≤ x.mx ∧ x.mn ≤ 39 ∧ x.mx ≤ 118 ∧ (x.rest = false → x.mn = 0 ∧ x.mx = 0)
theorem plateOf_mem {room : Nat} {q : List Raw} {x : Stp} (h : x ∈ plateOf room q) : ∃ i y, x = stpOf i y := by
  obtain ⟨i, hi⟩ := List.getElem?_of_mem h
  unfold plateOf at hi
  rw [List.getElem?_mapIdx] at hi
  cases hy : (q.take (min 5 room))[i]? with
  | none => rw [hy] at hi; cases hi
  | some y => rw [hy] at hi; simp at hi; exact ⟨i, y, hi.symm⟩
theorem GoodA.snoc {acc : List (List Stp)} (h : GoodA acc) (h4 : acc.length < 4) (q : List Raw) (hne : plateOf (9 - (labs acc).length) q ≠ []) : GoodA (acc ++ [plateOf (9 - (labs acc).length) q]) := by
  have hl := plateOf_len (9 - (labs acc).length) q
  refine ⟨by simp; omega, ?_, ?_, ?_, ?_⟩
  · intro p hp
    rcases List.mem_append.1 hp with hp | hp
    · exact h.five p hp
    · rw [List.mem_singleton.1 hp, hl]; omega
  · rw [labs_snoc, List.length_append, show (lab acc.length (plateOf (9 - (labs acc).length) q)).length = (plateOf (9 - (labs acc).length) q).length from by simp [lab], hl]
    have := h.nine
    omega
  · intro p hp
    rcases List.mem_append.1 hp with hp | hp
    · exact h.head p hp
    · rw [List.mem_singleton.1 hp]
      cases hc : plateOf (9 - (labs acc).length) q with
      | nil => exact absurd hc hne
      | cons x r =>
        refine ⟨x, r, rfl, ?_⟩
        have h0 : (plateOf (9 - (labs acc).length) q)[0]? = some x := by rw [hc]; rfl
        cases q with
        | nil => rw [hc] at hl; simp at hl
        | cons y q =>
          have := plateOf_at (room := 9 - (labs acc).length) (q := y :: q) (i := 0) (x := y) rfl (by
            rw [hc] at hl
            simp only [List.length_cons] at hl
            omega)
          rw [this] at h0
          cases h0
          rfl
  · intro p hp x hx
    rcases List.mem_append.1 hp with hp | hp
    · exact h.stp p hp x hx
    · rw [List.mem_singleton.1 hp] at hx
      obtain ⟨i, y, rfl⟩ := plateOf_mem hx
      exact stpOf_ok i y
theorem shapeF_good : ∀ (qs : List (List Raw)) (acc : List (List Stp)), GoodA acc → GoodA (shapeF qs acc)
  | [], acc, h => h
  | q :: qs, acc, h => by
    rw [shapeF]
    split
    · rename_i h4
      split
      · exact shapeF_good qs acc h
      · rename_i hne
        exact shapeF_good qs _ (h.snoc h4 q hne)
    · exact h
theorem GoodA.nil : GoodA [] := ⟨by simp, fun q h => (by cases h), by simp [labs_nil], fun q h => (by cases h), fun q h => (by cases h)⟩
theorem shapeP_good (qs : List (List Raw)) : GoodS (shapeP qs) := by
  unfold shapeP
  split
  · refine ⟨by simp, by simp, ?_, by decide, ?_, ?_⟩
    · intro q hq; rw [List.mem_singleton.1 hq]; simp
    · intro q hq; rw [List.mem_singleton.1 hq]; exact ⟨oneStp, [], rfl, rfl⟩
    · intro q hq x hx
      rw [List.mem_singleton.1 hq] at hx
      rw [List.mem_singleton.1 hx]
      simp [oneStp]
  · rename_i hne
    have h := shapeF_good qs [] GoodA.nil
    exact ⟨hne, h.four, h.five, h.nine, h.head, h.stp⟩
end Hx

/-- A raw step: five cells. -/
def rawCells (x : Hx.Raw) : List Value := [.int .i64 x.lo, .int .i64 x.more, .int .i64 x.rest, .int .i64 x.mn, .int .i64 x.wide]
def I64 (z : Int) : Prop := -9223372036854775808 ≤ z ∧ z ≤ 9223372036854775807
structure RawOk (x : Hx.Raw) : Prop where
  lo : I64 x.lo
  more : I64 x.more
  rest : I64 x.rest
  mn : I64 x.mn
  wide : I64 x.wide
/-- A row of raw steps, as it lies; rows of such rows. -/
def RowR (w : World) (v : Value) (q : List Hx.Raw) : Prop :=
  ∃ ao cap, v = .slice ao q.length cap ∧ q.length ≤ maxLen ∧ ∀ (i : Nat) (x : Hx.Raw), q[i]? = some x → RawOk x ∧ ∃ b o, ao = some ⟨b, o, none⟩ ∧ ∀ t, t < 5 → w.cell? ⟨b, o + (i * 5 + t), none⟩ = (rawCells x)[t]?
def RowsR (w : World) (v : Value) (qs : List (List Hx.Raw)) : Prop :=
  ∃ ao cap, v = .slice ao qs.length cap ∧ qs.length ≤ maxLen ∧ ∀ (r : Nat) (q : List Hx.Raw), qs[r]? = some q → ∃ b o u, ao = some ⟨b, o, none⟩ ∧ w.cell? ⟨b, o + r, none⟩ = some u ∧ RowR w u q
theorem cell_below {w w' : World} {B : Nat} (hb : Below B w w') (hB : w.heap.size ≤ B) {p : Addr} {v : Value} (h : w.cell? p = some v) : w'.cell? p = some v := by
  rw [hb.cell (Nat.lt_of_lt_of_le (World.block_lt_of_cell? w p h) hB)]; exact h
theorem RowR.below {w w' : World} {B : Nat} {v : Value} {q : List Hx.Raw} (h : RowR w v q) (hb : Below B w w') (hB : w.heap.size ≤ B) : RowR w' v q := by
  obtain ⟨ao, cap, e, hm, hx⟩ := h
  refine ⟨ao, cap, e, hm, fun i x hi => ?_⟩
  obtain ⟨h1, b, o, h2, h3⟩ := hx i x hi
  refine ⟨h1, b, o, h2, fun t ht => ?_⟩
  have h4 := h3 t ht
  have : ∃ u, (rawCells x)[t]? = some u := ⟨_, List.getElem?_eq_getElem (by show t < 5; exact ht)⟩
  obtain ⟨u, hu⟩ := this
  rw [hu] at h4 ⊢
  exact cell_below hb hB h4
theorem RowsR.below {w w' : World} {B : Nat} {v : Value} {qs : List (List Hx.Raw)} (h : RowsR w v qs) (hb : Below B w w') (hB : w.heap.size ≤ B) : RowsR w' v qs := by
  obtain ⟨ao, cap, e, hm, hx⟩ := h
  refine ⟨ao, cap, e, hm, fun r q hr => ?_⟩
  obtain ⟨b, o, u, h1, h2, h3⟩ := hx r q hr
  exact ⟨b, o, u, h1, cell_below hb hB h2, h3.below hb hB⟩

theorem pick_gen (c nI : Int) (w : World) (h1 : -9223372036854775808 ≤ c) (h2 : c ≤ 9223372036854775807) (hn : 0 < nI) (hn2 : nI ≤ 9223372036854775807) :
    Calls Tryd.prog 15 #[.int .i64 c, .int .i64 nI] w fun e w' => e = .returned (.int .i64 (Hx.pickN c nI.toNat : Int)) ∧ w' = w := by
  have e : nI = (nI.toNat : Int) := by omega
  rw [show #[Value.int .i64 c, Value.int .i64 nI] = #[Value.int .i64 c, Value.int .i64 (nI.toNat : Int)] by rw [← e]]
  exact pick_any c nI.toNat w h1 h2 (by omega) (by omega)
end Go.Proofs.YtppcnlkhdgmaiaaDoor
namespace Go.Proofs.YtppcnlkhdgmaiaaDoor
namespace Hx

/-- The machine's book. -/
structure Bk (l : List TStp) (m : Ms) : Prop where
  le : m.k ≤ l.length
  free : m.work = false → m.sts.length = m.k
  busy : m.work = true → m.k < l.length ∧ ∃ pre b, m.sts = pre ++ [(b, none)] ∧ pre.length = m.k

theorem pre_begin (l : List TStp) (sts : List (Nat × Option Nat)) (x : TStp) (e : Nat × Option Nat) (hx : l[sts.length]? = some x) : evB l sts <+: evB l (sts ++ [e]) := by
  rw [evB_snoc l sts x e hx]
  split
  · rename_i h; rw [h, evB_nil]; exact List.nil_prefix
  · rw [List.append_assoc]; exact List.prefix_append _ _
theorem pre_end (l : List TStp) (pre : List (Nat × Option Nat)) (x : TStp) (now v : Nat) (hx : l[pre.length]? = some x) : evB l (pre ++ [(now, none)]) <+: evB l (pre ++ [(now, some v)]) := by
  rw [ent_open l pre x now hx, ent_shut l pre x now v hx]
  exact List.prefix_append _ _

theorem began_pre {m : Ms} {pre : List (Nat × Option Nat)} {b : Nat} (h1 : m.sts = pre ++ [(b, none)]) (h2 : pre.length = m.k) : beganM m = b := by
  have : m.sts.getD m.k (0, none) = (b, none) := by
    rw [List.getD_eq_getElem?_getD, h1, ← h2, List.getElem?_append_right (Nat.le_refl _)]
    simp
  rw [beganM, this]
theorem setd_pre {m : Ms} {pre : List (Nat × Option Nat)} {b : Nat} (h1 : m.sts = pre ++ [(b, none)]) (h2 : pre.length = m.k) (e : Nat × Option Nat) : m.sts.set m.k e = pre ++ [e] := by
  rw [h1, ← h2, List.set_append_right _ _ (Nat.le_refl _)]
  simp

theorem oneM_bk {l : List TStp} {J : Nat} {takes : List Nat} {m m' : Ms} {r : Option Nat} (hb : Bk l m) (h : oneM l J takes m = (r, m')) : evB l m.sts <+: evB l m'.sts ∧ (r = none ∨ r = some 0 → Bk l m') := by
  unfold oneM at h
  cases hx : l[m.k]? with
  | none => rw [hx] at h; cases h; exact ⟨List.prefix_refl _, fun _ => hb⟩
  | some x =>
    have hk : m.k < l.length := by
      rcases Nat.lt_or_ge m.k l.length with g | g
      · exact g
      · rw [List.getElem?_eq_none g] at hx; cases hx
    rw [hx] at h
    simp only at h
    split at h
    · rename_i hw
      obtain ⟨_, pre, b, h1, h2⟩ := hb.busy hw
      have hp : evB l m.sts <+: evB l (m.sts.set m.k (beganM m, some (beganM m + takes.getD m.k 0))) := by
        rw [setd_pre h1 h2, began_pre h1 h2, h1]
        exact pre_end l pre x b _ (by rw [h2]; exact hx)
      split at h
      · unfold finishM at h
        split at h
        · cases h; exact ⟨hp, fun g => by rcases g with g | g <;> cases g⟩
        · split at h
          · cases h; exact ⟨hp, fun g => by rcases g with g | g <;> cases g⟩
          · cases h
            refine ⟨hp, fun _ => ⟨hk, fun _ => ?_, fun g => by cases g⟩⟩
            show (m.sts.set m.k _).length = m.k + 1
            rw [List.length_set, h1]; simp [h2]
      · split at h
        · cases h; exact ⟨List.prefix_refl _, fun g => by rcases g with g | g <;> cases g⟩
        · cases h; exact ⟨List.prefix_refl _, fun _ => hb⟩
    · rename_i hw
      have hw : m.work = false := by simpa using hw
      split at h
      · cases h; exact ⟨List.prefix_refl _, fun _ => hb⟩
      · unfold beginM at h
        split at h
        · cases h; exact ⟨List.prefix_refl _, fun g => by rcases g with g | g <;> cases g⟩
        · split at h
          · cases h; exact ⟨List.prefix_refl _, fun g => by rcases g with g | g <;> cases g⟩
          · cases h
            have hl := hb.free hw
            exact ⟨pre_begin l m.sts x _ (by rw [hl]; exact hx), fun _ => ⟨hb.le, fun g => (by cases g), fun _ => ⟨hk, m.sts, m.time, rfl, hl⟩⟩⟩

theorem lookM_bk {l : List TStp} {J : Nat} {takes : List Nat} : ∀ (n : Nat) (m : Ms), muM l m = n → Bk l m → evB l m.sts <+: evB l (lookM l J takes m).2.sts ∧ ((lookM l J takes m).1 = 0 → Bk l (lookM l J takes m).2) := by
  intro n
  induction n using Nat.strongRecOn with
  | ind n ih =>
    intro m hn hb
    rcases ho : oneM l J takes m with ⟨r, m'⟩
    obtain ⟨h1, h2⟩ := oneM_bk hb ho
    cases r with
    | none =>
      rw [lookM_none ho]
      have hmu := oneM_mu ho
      obtain ⟨g1, g2⟩ := ih _ (by omega) m' rfl (h2 (Or.inl rfl))
      exact ⟨h1.trans g1, g2⟩
    | some e =>
      rw [lookM_some ho]
      exact ⟨h1, fun he => h2 (Or.inr (by rw [show e = 0 from he]))⟩

theorem runM_bk {l : List TStp} {J : Nat} {takes : List Nat} : ∀ (cs : List Nat) (r : Nat × Ms), (r.1 = 0 → Bk l r.2) → evB l r.2.sts <+: evB l (runM l J takes cs r).2.sts ∧ ((runM l J takes cs r).1 = 0 → Bk l (runM l J takes cs r).2)
  | [], r, h => ⟨List.prefix_refl _, h⟩
  | c :: cs, r, h => by
    by_cases he : r.1 = 0
    · rw [runM_cons he]
      have hb := h he
      have hb' : Bk l { r.2 with time := r.2.time + c } := ⟨hb.le, hb.free, hb.busy⟩
      obtain ⟨h1, h2⟩ := lookM_bk (J := J) (takes := takes) _ _ rfl hb'
      obtain ⟨g1, g2⟩ := runM_bk cs (lookM l J takes { r.2 with time := r.2.time + c }) h2
      exact ⟨List.IsPrefix.trans h1 g1, g2⟩
    · rw [runM_end he]; exact ⟨List.prefix_refl _, fun g => absurd g he⟩
theorem runM_app {l : List TStp} {J : Nat} {takes : List Nat} : ∀ (cs ds : List Nat) (r : Nat × Ms), runM l J takes (cs ++ ds) r = runM l J takes ds (runM l J takes cs r)
  | [], _, _ => rfl
  | c :: cs, ds, r => by
    by_cases he : r.1 = 0
    · rw [List.cons_append, runM_cons he, runM_cons he]; exact runM_app cs ds _
    · rw [runM_end he, runM_end he, runM_end he]
theorem start_bk (l : List TStp) : Bk l startM := ⟨Nat.zero_le _, fun _ => rfl, fun h => by cases h⟩
theorem machF_bk (l : List TStp) (J : Nat) (clock takes : List Nat) : (machF l J clock takes).1 = 0 → Bk l (machF l J clock takes).2 :=
  (runM_bk clock _ (lookM_bk _ _ rfl (start_bk l)).2).2
/-- A longer clock: what has ended stays. -/
theorem machF_ended {l : List TStp} {J : Nat} {C M takes : List Nat} (h : (machF l J C takes).1 ≠ 0) : machF l J (C ++ M) takes = machF l J C takes := by
  unfold machF at h ⊢
  rw [runM_app, runM_end h]
/-- A longer clock: what was told stays. -/
theorem machF_onward (l : List TStp) (J : Nat) (C M takes : List Nat) : evB l (machF l J C takes).2.sts <+: evB l (machF l J (C ++ M) takes).2.sts := by
  rw [show machF l J (C ++ M) takes = runM l J takes M (machF l J C takes) by unfold machF; rw [runM_app]]
  exact (runM_bk M _ (machF_bk l J C takes)).1

/-- What stands ahead of the first semicolon, and behind it. -/
def cutF : List UInt8 → List UInt8 × List UInt8
  | [] => ([], [])
  | b :: r => if b = 59 then ([], r) else (b :: (cutF r).1, (cutF r).2)
theorem cutF_at (h e : List UInt8) (hn : 59 ∉ h) : cutF (h ++ 59 :: e) = (h, e) := by
  induction h with
  | nil => simp [cutF]
  | cons b r ih =>
    have h1 : b ≠ 59 := fun g => hn (by simp [g])
    have h2 : 59 ∉ r := fun g => hn (by simp [g])
    rw [List.cons_append, cutF, if_neg h1, ih h2]
def headB (l : List TStp) (r : Nat × Ms) : List UInt8 := outB r.1 ++ (if 2 ≤ r.1 then [32] ++ nameAt l r.2.k else [])
theorem tellF_head (l : List TStp) (r : Nat × Ms) : tellF l r = headB l r ++ 59 :: evB l r.2.sts := by simp [tellF, headB]
theorem name_no {pl no : Nat} (h1 : pl < 4) (h2 : no < 10) : (59 : UInt8) ∉ nmB pl no := by
  have key : ∀ p : Fin 4, ∀ n : Fin 10, (59 : UInt8) ∉ nmB p.val n.val := by decide
  exact key ⟨pl, h1⟩ ⟨no, h2⟩
theorem outB_no (e : Nat) : (59 : UInt8) ∉ outB e := by
  match e with
  | 0 => decide
  | 1 => decide
  | 2 => decide
  | 3 => decide
  | 4 => decide
  | n + 5 => exact (by decide : (59 : UInt8) ∉ outB 5)
theorem headB_no {l : List TStp} (hok : ∀ y ∈ l, TOk y) (r : Nat × Ms) : (59 : UInt8) ∉ headB l r := by
  unfold headB
  intro h
  rcases List.mem_append.1 h with h | h
  · exact outB_no _ h
  · split at h
    · rcases List.mem_append.1 h with h | h
      · revert h; decide
      · unfold nameAt at h
        split at h
        · rename_i x hx
          have := hok x (List.mem_of_getElem? hx)
          exact name_no this.pl this.no h
        · cases h
    · cases h
theorem cut_tell {l : List TStp} (hok : ∀ y ∈ l, TOk y) (r : Nat × Ms) : cutF (tellF l r) = (headB l r, evB l r.2.sts) := by
  rw [tellF_head]; exact cutF_at _ _ (headB_no hok r)
/-- What Onward asks of the two answers. -/
theorem onward_tell {l : List TStp} (hok : ∀ y ∈ l, TOk y) (J : Nat) (C M takes : List Nat) :
    ((cutF (tellF l (machF l J C takes))).1 ≠ outB 0 → tellF l (machF l J C takes) = tellF l (machF l J (C ++ M) takes)) ∧
    (cutF (tellF l (machF l J C takes))).2 <+: (cutF (tellF l (machF l J (C ++ M) takes))).2 := by
  rw [cut_tell hok, cut_tell hok]
  refine ⟨fun h => ?_, machF_onward l J C M takes⟩
  by_cases he : (machF l J C takes).1 = 0
  · exact absurd (by simp [headB, he]) h
  · rw [machF_ended he]

/-- What is read of a number is digits. -/
theorem digF_pass (s : ByteArray) : ∀ k at_ v i, at_ ≤ i → i < (digF s k at_ v).2 → 48 ≤ byteAt s i ∧ byteAt s i ≤ 57
  | 0, at_, v, i, h1, h2 => by simp [digF] at h2; omega
  | k + 1, at_, v, i, h1, h2 => by
    unfold digF at h2
    split at h2
    · rename_i g
      by_cases e : i = at_
      · rw [e]; exact g
      · exact digF_pass s k (at_ + 1) _ i (by omega) h2
    · simp at h2; omega
theorem numF_pass {s : ByteArray} {m : Nat} {st : St} {i : Nat} (h1 : st.pos ≤ i) (h2 : i < (numF s m st).2.pos) : 48 ≤ byteAt s i ∧ byteAt s i ≤ 57 := by
  unfold numF at h2
  split at h2
  · simp at h2; omega
  · split at h2
    · rename_i e
      simp at h2
      rw [show i = st.pos by omega, e]; omega
    · split at h2
      · exact digF_pass s m st.pos 0 i h1 h2
      · simp at h2; omega
theorem numsF_pass {s : ByteArray} (n : Nat) : ∀ (st : St) (acc : List Nat) (i : Nat), s.size - st.pos = n → st.pos ≤ i → i < (numsF s st acc).2.pos → byteAt s i ≠ 47 := by
  induction n using Nat.strongRecOn with
  | ind n ih =>
    intro st acc i hn h1 h2
    have hG := numF_ge s 3 st
    rw [numsF] at h2
    split at h2
    · simp at h2; omega
    · rename_i hbad
      split at h2
      · rename_i hq
        obtain ⟨_, g2, h3, h4⟩ := nextF_in (by omega) hq
        rw [h4] at h2
        by_cases c1 : i < (numF s 3 st).2.pos
        · have := numF_pass h1 c1; omega
        · by_cases c2 : i = (numF s 3 st).2.pos
          · rw [c2, g2]; omega
          · exact ih (s.size - ((numF s 3 st).2.pos + 1)) (by omega) ⟨(numF s 3 st).2.pos + 1, false⟩ _ i rfl (by simp only; omega) h2
      · rename_i hq
        have : (nextF s 44 (numF s 3 st).2).2 = (numF s 3 st).2 := by
          unfold nextF at hq ⊢
          split at hq
          · simp at hq
          · rename_i g; rw [if_neg g]
        simp only [this] at h2
        have := numF_pass h1 h2; omega
theorem numbersF_pass {s : ByteArray} {c : Nat} {st : St} {i : Nat} (h1 : st.pos ≤ i) (h2 : i < (numbersF s c st).2.pos) : byteAt s i ≠ 47 := by
  unfold numbersF at h2
  split at h2
  · simp at h2; omega
  · exact numsF_pass _ st [] i rfl h1 h2
theorem numbersF_badS {s : ByteArray} {c : Nat} {st : St} (h : st.bad = true) : (numbersF s c st).2.bad = true := by
  unfold numbersF
  split
  · exact h
  · rw [numsF, if_pos h]; exact h
/-- The one stroke of a right script. -/
theorem stroke {s : ByteArray} (h : scrOk s = true) : (scr1 s).2.bad = false ∧ byteAt s (scr1 s).2.pos = 47 ∧ takeF s 47 (scr1 s).2 = ⟨(scr1 s).2.pos + 1, false⟩ ∧ (scr2 s).2.pos = s.size ∧ (scr2 s).2.bad = false ∧ ∀ i, i < s.size → byteAt s i = 47 → i = (scr1 s).2.pos := by
  simp only [scrOk, Bool.and_eq_true, Bool.not_eq_true', beq_iff_eq] at h
  obtain ⟨h1, h2⟩ := h
  have ht : ¬ ((scr1 s).2.bad = true ∨ byteAt s (scr1 s).2.pos ≠ 47) := fun g => by
    have : (takeF s 47 (scr1 s).2).bad = true := by rw [takeF, if_pos g]
    have := numbersF_badS (s := s) (c := 0) this
    unfold scr2 at h1
    rw [this] at h1; cases h1
  have e1 : (scr1 s).2.bad = false := by
    cases hb : (scr1 s).2.bad
    · rfl
    · exact absurd (Or.inl hb) ht
  have e2 : byteAt s (scr1 s).2.pos = 47 := by
    rcases Nat.decEq (byteAt s (scr1 s).2.pos) 47 with g | g
    · exact absurd (Or.inr g) ht
    · exact g
  have e3 : takeF s 47 (scr1 s).2 = ⟨(scr1 s).2.pos + 1, false⟩ := by rw [takeF, if_neg ht]
  refine ⟨e1, e2, e3, h2, h1, fun i hi hb => ?_⟩
  rcases Nat.lt_trichotomy i (scr1 s).2.pos with g | g | g
  · exact absurd hb (numbersF_pass (st := ⟨0, false⟩) (Nat.zero_le _) g)
  · exact g
  · refine absurd hb (numbersF_pass (st := takeF s 47 (scr1 s).2) (c := 0) ?_ ?_)
    · rw [e3]; exact g
    · show i < (scr2 s).2.pos
      omega

/-- Two texts that agree up to a place, at which neither has a digit. -/
theorem digF_agree {A B : ByteArray} {n : Nat} (hag : ∀ i, i < n → byteAt A i = byteAt B i) (hA : ¬ (48 ≤ byteAt A n ∧ byteAt A n ≤ 57)) (hB : ¬ (48 ≤ byteAt B n ∧ byteAt B n ≤ 57)) : ∀ k at_ v, at_ ≤ n → digF A k at_ v = digF B k at_ v ∧ (digF A k at_ v).2 ≤ n
  | 0, at_, v, h => by simp [digF, h]
  | k + 1, at_, v, h => by
    unfold digF
    by_cases e : at_ = n
    · subst e; rw [if_neg hA, if_neg hB]; exact ⟨rfl, h⟩
    · rw [hag at_ (by omega)]
      split
      · exact digF_agree hag hA hB k (at_ + 1) _ (by omega)
      · exact ⟨rfl, h⟩
theorem numF_agree {A B : ByteArray} {n : Nat} (hag : ∀ i, i < n → byteAt A i = byteAt B i) (hA : ¬ (48 ≤ byteAt A n ∧ byteAt A n ≤ 57)) (hB : ¬ (48 ≤ byteAt B n ∧ byteAt B n ≤ 57)) (m p : Nat) (h : p ≤ n) : numF A m ⟨p, false⟩ = numF B m ⟨p, false⟩ ∧ (numF A m ⟨p, false⟩).2.pos ≤ n := by
  by_cases e : p = n
  · subst e
    rw [numF_no rfl hA, numF_no rfl hB]
    exact ⟨rfl, h⟩
  · have g := hag p (by omega)
    obtain ⟨d1, d2⟩ := digF_agree hag hA hB m p 0 h
    unfold numF
    simp only [g, Bool.false_eq_true, if_false]
    split
    · exact ⟨rfl, by simp only; omega⟩
    · split
      · rw [d1]; exact ⟨rfl, by rw [d1] at d2; exact d2⟩
      · exact ⟨rfl, h⟩
theorem numsF_acc {s : ByteArray} (n : Nat) : ∀ (st : St) (acc acc2 : List Nat), s.size - st.pos = n → numsF s st (acc ++ acc2) = (acc ++ (numsF s st acc2).1, (numsF s st acc2).2) := by
  induction n using Nat.strongRecOn with
  | ind n ih =>
    intro st acc acc2 hn
    have hG := numF_ge s 3 st
    rw [numsF, numsF.eq_1 s st acc2]
    split
    · rfl
    · split
      · rename_i hq
        obtain ⟨_, g2, h3, h4⟩ := nextF_in (by omega) hq
        rw [h4, List.append_assoc]
        exact ih (s.size - ((numF s 3 st).2.pos + 1)) (by omega) ⟨(numF s 3 st).2.pos + 1, false⟩ acc _ rfl
      · rw [List.append_assoc]
theorem numsF_agree {A B : ByteArray} {n : Nat} (hag : ∀ i, i < n → byteAt A i = byteAt B i) (hA : byteAt A n = 47) (hB : byteAt B n = 44) : ∀ (q p : Nat) (acc acc' : List Nat), n - p = q → p ≤ n → numsF A ⟨p, false⟩ acc = (acc', ⟨n, false⟩) → numsF B ⟨p, false⟩ acc = numsF B ⟨n + 1, false⟩ acc' := by
  intro q
  induction q using Nat.strongRecOn with
  | ind q ih =>
    intro p acc acc' hq hp h
    obtain ⟨e1, e2⟩ := numF_agree (A := A) (B := B) (n := n) hag (by omega) (by omega) 3 p hp
    have hG := numF_ge A 3 ⟨p, false⟩
    simp only at hG
    rw [numsF, if_neg (by simp)] at h
    rw [numsF, if_neg (by simp), ← e1]
    rcases hst : numF A 3 ⟨p, false⟩ with ⟨v, ⟨u, bad⟩⟩
    rw [hst] at h e2 hG
    simp only at h e2 hG ⊢
    cases bad with
    | true =>
      have k1 : nextF A 44 ⟨u, true⟩ = (false, ⟨u, true⟩) := nextF_no (by simp)
      rw [k1] at h
      simp at h
    | false =>
      by_cases hu : u = n
      · subst hu
        have k1 : nextF A 44 ⟨u, false⟩ = (false, ⟨u, false⟩) := nextF_no (by simp [hA])
        have k2 : nextF B 44 ⟨u, false⟩ = (true, ⟨u + 1, false⟩) := nextF_yes hB
        rw [k1] at h
        simp at h
        rw [k2]
        simp [h]
      · have hu' : u < n := by omega
        by_cases hc : byteAt A u = 44
        · have k1 : nextF A 44 ⟨u, false⟩ = (true, ⟨u + 1, false⟩) := nextF_yes hc
          have k2 : nextF B 44 ⟨u, false⟩ = (true, ⟨u + 1, false⟩) := nextF_yes (by rw [← hag u hu']; exact hc)
          rw [k1] at h
          rw [k2]
          simp only [dite_true] at h ⊢
          exact ih (n - (u + 1)) (by omega) (u + 1) _ acc' rfl (by omega) h
        · have k1 : nextF A 44 ⟨u, false⟩ = (false, ⟨u, false⟩) := nextF_no (by simp [hc])
          rw [k1] at h
          simp at h
          omega

/-- Two texts that agree from two places on. -/
theorem digF_shift {A B : ByteArray} {a b : Nat} (hag : ∀ i, byteAt A (a + i) = byteAt B (b + i)) : ∀ k i v, (digF A k (a + i) v).1 = (digF B k (b + i) v).1 ∧ ∃ j, (digF A k (a + i) v).2 = a + j ∧ (digF B k (b + i) v).2 = b + j
  | 0, i, v => ⟨rfl, i, rfl, rfl⟩
  | k + 1, i, v => by
    unfold digF
    rw [hag i]
    split
    · exact digF_shift hag k (i + 1) _
    · exact ⟨rfl, i, rfl, rfl⟩
theorem numF_shift {A B : ByteArray} {a b : Nat} (hag : ∀ i, byteAt A (a + i) = byteAt B (b + i)) (m i : Nat) (bad : Bool) : (numF A m ⟨a + i, bad⟩).1 = (numF B m ⟨b + i, bad⟩).1 ∧ ∃ j bad', (numF A m ⟨a + i, bad⟩).2 = ⟨a + j, bad'⟩ ∧ (numF B m ⟨b + i, bad⟩).2 = ⟨b + j, bad'⟩ := by
  unfold numF
  simp only [hag i]
  split
  · exact ⟨rfl, i, bad, rfl, rfl⟩
  · split
    · exact ⟨rfl, i + 1, false, rfl, rfl⟩
    · split
      · obtain ⟨h1, j, h2, h3⟩ := digF_shift hag m i 0
        exact ⟨h1, j, false, by rw [h2], by rw [h3]⟩
      · exact ⟨rfl, i, true, rfl, rfl⟩
theorem numsF_shift {A B : ByteArray} {a b : Nat} (hag : ∀ i, byteAt A (a + i) = byteAt B (b + i)) : ∀ (q i : Nat) (bad : Bool) (acc : List Nat), A.size - (a + i) = q → (numsF A ⟨a + i, bad⟩ acc).1 = (numsF B ⟨b + i, bad⟩ acc).1 := by
  intro q
  induction q using Nat.strongRecOn with
  | ind q ih =>
    intro i bad acc hq
    obtain ⟨e1, j, bd, e2, e3⟩ := numF_shift hag 3 i bad
    have hG := numF_ge A 3 ⟨a + i, bad⟩
    rw [numsF, numsF.eq_1 B]
    cases bad with
    | true => simp
    | false =>
      simp only [Bool.false_eq_true, if_false]
      rw [e2] at hG
      simp only at hG
      rw [e1, e2, e3]
      cases bd with
      | true =>
        have k1 : nextF A 44 ⟨a + j, true⟩ = (false, ⟨a + j, true⟩) := nextF_no (by simp)
        have k2 : nextF B 44 ⟨b + j, true⟩ = (false, ⟨b + j, true⟩) := nextF_no (by simp)
        rw [k1, k2]; simp
      | false =>
        by_cases hc : byteAt A (a + j) = 44
        · have hin := byteAt_in (s := A) (i := a + j) (by omega)
          have k1 : nextF A 44 ⟨a + j, false⟩ = (true, ⟨a + j + 1, false⟩) := nextF_yes hc
          have k2 : nextF B 44 ⟨b + j, false⟩ = (true, ⟨b + j + 1, false⟩) := nextF_yes (by rw [← hag j]; exact hc)
          rw [k1, k2]
          simp only [dite_true]
          exact ih (A.size - (a + (j + 1))) (by omega) (j + 1) false _ rfl
        · have k1 : nextF A 44 ⟨a + j, false⟩ = (false, ⟨a + j, false⟩) := nextF_no (by simp [hc])
          have k2 : nextF B 44 ⟨b + j, false⟩ = (false, ⟨b + j, false⟩) := nextF_no (by simp [← hag j, hc])
          rw [k1, k2]; simp

/-- A script with a longer clock: its clock goes on, its lengths are the same. -/
theorem longer {A B : ByteArray} {n n2 : Nat} (hA : scrOk A = true) (hB : scrOk B = true) (h1 : n < A.size) (h2 : n < n2) (h3 : n2 < B.size) (hag : ∀ i, i < n → byteAt A i = byteAt B i) (a1 : byteAt A n = 47) (b1 : byteAt B n = 44) (b2 : byteAt B n2 = 47) (hsh : ∀ i, byteAt A (n + 1 + i) = byteAt B (n2 + 1 + i)) (hsz : A.size - n = B.size - n2) :
    (∃ M, (scr1 B).1 = (scr1 A).1 ++ M) ∧ (scr2 A).1 = (scr2 B).1 := by
  obtain ⟨p1, p2, p3, p4, p5, p6⟩ := stroke hA
  obtain ⟨q1, q2, q3, q4, q5, q6⟩ := stroke hB
  have en := p6 n h1 a1
  have en2 := q6 n2 h3 b2
  rw [← en] at p3
  rw [← en2] at q3
  refine ⟨?_, ?_⟩
  · have hs1 : scr1 A = ((scr1 A).1, ⟨n, false⟩) := by
      rcases hh : scr1 A with ⟨v, ⟨p, b⟩⟩
      rw [hh] at en p1
      simp only at en p1
      rw [en, p1]
    by_cases hz : byteAt A 0 = 47
    · exfalso
      have : scr1 A = ([], ⟨0, false⟩) := by unfold scr1 numbersF; rw [if_pos (Or.inr ⟨by omega, hz⟩)]
      rw [this] at en
      simp only at en
      subst en
      have hb : scr1 B = numsF B ⟨0, false⟩ [] := by
        unfold scr1 numbersF
        rw [if_neg (by simp; rw [b1]; omega)]
      rw [numsF, if_neg (by simp), numF_no rfl (by simp only [b1]; omega)] at hb
      rw [nextF_no (by simp)] at hb
      simp at hb
      rw [hb] at q1
      cases q1
    · have hA1 : scr1 A = numsF A ⟨0, false⟩ [] := by
        unfold scr1 numbersF
        rw [if_neg (by simp; exact hz)]
      have hz' : byteAt B 0 ≠ 47 := by
        by_cases hn0 : n = 0
        · subst hn0; rw [b1]; omega
        · rw [← hag 0 (by omega)]; exact hz
      have hB1 : scr1 B = numsF B ⟨0, false⟩ [] := by
        unfold scr1 numbersF
        rw [if_neg (by simp; exact hz')]
      have := numsF_agree hag a1 b1 (n - 0) 0 [] (scr1 A).1 rfl (Nat.zero_le _) (hA1 ▸ hs1)
      rw [← hB1] at this
      rw [this]
      have hac := numsF_acc (s := B) _ ⟨n + 1, false⟩ (scr1 A).1 [] rfl
      rw [List.append_nil] at hac
      rw [hac]
      exact ⟨_, rfl⟩
  · unfold scr2
    rw [p3, q3]
    unfold numbersF
    by_cases hz : n + 1 = A.size
    · rw [if_pos (Or.inl ⟨rfl, hz⟩), if_pos (Or.inl ⟨rfl, by simp only; omega⟩)]
    · rw [if_neg (by simp; omega), if_neg (by simp; omega)]
      exact numsF_shift (a := n + 1) (b := n2 + 1) hsh _ 0 false [] rfl

end Hx
end Go.Proofs.YtppcnlkhdgmaiaaDoor
namespace Go.Proofs.YtppcnlkhdgmaiaaDoor
namespace Hx

theorem byteAt_data (s : ByteArray) (i : Nat) : byteAt s i = match s.data[i]? with | some b => b.toNat | none => 256 := by
  unfold byteAt
  by_cases h : i < s.size
  · rw [dif_pos h, Array.getElem?_eq_getElem h]; rfl
  · rw [dif_neg h, Array.getElem?_eq_none (by show s.size ≤ i; omega)]
theorem byteAt_left {a b : ByteArray} {i : Nat} (h : i < a.size) : byteAt (a ++ b) i = byteAt a i := by
  rw [byteAt_data, byteAt_data, ByteArray.data_append, Array.getElem?_append_left h]
theorem byteAt_right (a b : ByteArray) (i : Nat) : byteAt (a ++ b) (a.size + i) = byteAt b i := by
  rw [byteAt_data, byteAt_data, ByteArray.data_append, Array.getElem?_append_right (by show a.size ≤ _; omega)]
  have : a.size + i - a.data.size = i := by show a.size + i - a.size = i; omega
  rw [this]

/-- The two scripts of Onward. -/
theorem longer_texts (c m k : ByteArray) (hA : scrOk (c ++ ⟨#[47]⟩ ++ k) = true) (hB : scrOk (c ++ ⟨#[44]⟩ ++ m ++ ⟨#[47]⟩ ++ k) = true) :
    (∃ M, (scr1 (c ++ ⟨#[44]⟩ ++ m ++ ⟨#[47]⟩ ++ k)).1 = (scr1 (c ++ ⟨#[47]⟩ ++ k)).1 ++ M) ∧ (scr2 (c ++ ⟨#[47]⟩ ++ k)).1 = (scr2 (c ++ ⟨#[44]⟩ ++ m ++ ⟨#[47]⟩ ++ k)).1 := by
  have z1 : (⟨#[47]⟩ : ByteArray).size = 1 := rfl
  have z2 : (⟨#[44]⟩ : ByteArray).size = 1 := rfl
  have s1 : (c ++ ⟨#[47]⟩ : ByteArray).size = c.size + 1 := by rw [ByteArray.size_append, z1]
  have s2 : (c ++ ⟨#[44]⟩ : ByteArray).size = c.size + 1 := by rw [ByteArray.size_append, z2]
  have s3 : (c ++ ⟨#[44]⟩ ++ m : ByteArray).size = c.size + 1 + m.size := by rw [ByteArray.size_append, s2]
  have s4 : (c ++ ⟨#[44]⟩ ++ m ++ ⟨#[47]⟩ : ByteArray).size = c.size + 1 + m.size + 1 := by rw [ByteArray.size_append, s3, z1]
  have s5 : (c ++ ⟨#[47]⟩ ++ k : ByteArray).size = c.size + 1 + k.size := by rw [ByteArray.size_append, s1]
  have s6 : (c ++ ⟨#[44]⟩ ++ m ++ ⟨#[47]⟩ ++ k : ByteArray).size = c.size + 1 + m.size + 1 + k.size := by rw [ByteArray.size_append, s4]
  refine longer (n := c.size) (n2 := c.size + 1 + m.size) hA hB (by omega) (by omega) (by omega) ?_ ?_ ?_ ?_ ?_ (by omega)
  · intro i hi
    rw [byteAt_left (by omega), byteAt_left (by omega), byteAt_left (by omega), byteAt_left (by omega), byteAt_left (by omega), byteAt_left (by omega)]
  · rw [byteAt_left (by omega)]
    have := byteAt_right c ⟨#[47]⟩ 0
    rw [Nat.add_zero] at this
    rw [this]; rfl
  · rw [byteAt_left (by omega), byteAt_left (by omega), byteAt_left (by omega)]
    have := byteAt_right c ⟨#[44]⟩ 0
    rw [Nat.add_zero] at this
    rw [this]; rfl
  · rw [byteAt_left (by omega)]
    have := byteAt_right (c ++ ⟨#[44]⟩ ++ m) ⟨#[47]⟩ 0
    rw [Nat.add_zero, s3] at this
    rw [this]; rfl
  · intro i
    have h1 := byteAt_right (c ++ ⟨#[47]⟩) k i
    have h2 := byteAt_right (c ++ ⟨#[44]⟩ ++ m ++ ⟨#[47]⟩) k i
    rw [s1] at h1
    rw [s4] at h2
    rw [h1, h2]

/-- How many are read. -/
theorem numsF_count {s : ByteArray} (n : Nat) : ∀ (st : St) (acc : List Nat), s.size - st.pos = n → (numsF s st acc).1.length ≤ acc.length + (s.size - st.pos) + 1 := by
  induction n using Nat.strongRecOn with
  | ind n ih =>
    intro st acc hn
    have hG := numF_ge s 3 st
    rw [numsF]
    split
    · simp only; omega
    · split
      · rename_i hq
        obtain ⟨_, _, h3, h4⟩ := nextF_in (by omega) hq
        rw [h4]
        have := ih (s.size - ((numF s 3 st).2.pos + 1)) (by omega) ⟨(numF s 3 st).2.pos + 1, false⟩ (acc ++ [(numF s 3 st).1]) rfl
        refine Nat.le_trans this ?_
        simp only [List.length_append, List.length_cons, List.length_nil]
        omega
      · simp only [List.length_append, List.length_cons, List.length_nil]; omega
theorem numbersF_count {s : ByteArray} {c : Nat} {st : St} : (numbersF s c st).1.length ≤ s.size + 1 := by
  unfold numbersF
  split
  · simp
  · have := numsF_count (s := s) _ st [] rfl
    simp only [List.length_nil] at this
    omega
theorem tablesF_len (s : ByteArray) (st : St) (acc : List TStp) : (tablesF s st acc).2.length ≤ acc.length + mT s st := by
  induction st, acc using tablesF.induct (s := s) with
  | case1 st acc hc ih =>
    rw [tablesF, dif_pos hc]
    have h := mT_lt hc.1 hc.2
    rw [List.length_append, List.length_cons, List.length_nil] at ih
    omega
  | case2 st acc hc =>
    rw [tablesF, dif_neg hc]
    simp only; omega
theorem tableF_len (s : ByteArray) : (tableF s).2.length ≤ 2 * s.size + 2 := by
  have h := tablesF_len s (theadF s).2 []
  have h2 : mT s (theadF s).2 ≤ 2 * s.size + 2 := by unfold mT; split <;> omega
  rw [List.length_nil] at h
  unfold tableF
  omega

end Hx
end Go.Proofs.YtppcnlkhdgmaiaaDoor
namespace Go.Proofs.YtppcnlkhdgmaiaaDoor
open Go.RowKit

theorem Hx.cutF_none (l : List UInt8) (h : ∀ b ∈ l, b ≠ 59) : Hx.cutF l = (l, []) := by
  induction l with
  | nil => rfl
  | cons b r ih => rw [Hx.cutF, if_neg (h b (by simp)), ih (fun c hc => h c (by simp [hc]))]
theorem Hx.cutF_there {l : List UInt8} {i : Nat} (hi : l[i]? = some 59) (h : ∀ j, j < i → l[j]? ≠ some 59) : Hx.cutF l = (l.take i, l.drop (i + 1)) := by
  induction l generalizing i with
  | nil => simp at hi
  | cons b r ih =>
    cases i with
    | zero =>
      simp at hi
      rw [Hx.cutF, if_pos hi]; simp
    | succ i =>
      have h0 := h 0 (by omega)
      simp at h0
      rw [Hx.cutF, if_neg h0, ih (by simpa using hi) (fun j hj => by have := h (j + 1) (by omega); simpa using this)]
      simp

set_option maxHeartbeats 1000000 in
theorem cut_any (s : ByteArray) (w : World) (hs : s.size ≤ 1000000000) :
    Calls Tryd.prog 28 #[.string s] w fun e w' => e = .returned (.tuple #[.string ⟨(Hx.cutF s.data.toList).1.toArray⟩, .string ⟨(Hx.cutF s.data.toList).2.toArray⟩]) ∧ ∃ n, w' = w.drewN n := by
  obtain ⟨FIN, hFIN⟩ : ∃ FIN, FIN = Hx.cutF s.data.toList := ⟨_, rfl⟩
  rw [← hFIN]
  have HFIN := hide hFIN
  clear hFIN
  go_enter Tryd.func28, Tryd.ntmps28
  go_wp2_with fail
  go_loopg [4] s.size (fun gk kk wr => ∃ i : Nat, i ≤ s.size ∧ gk = s.size - i ∧ kk = .int .i64 (i : Int) ∧ wr = w ∧ Hid (∀ j, j < i → s.data.toList[j]? ≠ some 59))
  case atStart => exact ⟨0, Nat.zero_le _, rfl, rfl, rfl, fun j hj => absurd hj (Nat.not_lt_zero _)⟩
  case round =>
    obtain ⟨i, hi, rfl, rfl, rfl, HN⟩ := hrel
    by_cases hlt : i < s.size
    · have hiI : (i : Int) < (s.size : Int) := by omega
      have hi0 : (0 : Int) ≤ (i : Int) := by omega
      by_cases hb : s[i] = 59
      · have HF : Hid (FIN = ((s.data.toList).take i, (s.data.toList).drop (i + 1))) := by
          show _ = _
          rw [unhide HFIN]
          refine Hx.cutF_there ?_ (unhide HN)
          rw [Array.getElem?_toList, Array.getElem?_eq_getElem hlt]
          exact congrArg some hb
        clear HFIN
        go_wp2_with fail
        go_quiet (fail)
        go_wp2_with fail
        go_returns
        rw [unhide HF]
        refine ⟨?_, _, rfl⟩
        have e1 : s.extract 0 i = ⟨(List.take i s.data.toList).toArray⟩ := by
          apply ByteArray.ext
          rw [ByteArray.data_extract]
          apply Array.ext'
          simp
        have e2 : s.extract (i + 1) s.size = ⟨(List.drop (i + 1) s.data.toList).toArray⟩ := by
          apply ByteArray.ext
          rw [ByteArray.data_extract]
          apply Array.ext'
          simp
          exact List.take_of_length_le (by simp)
        rw [e1, e2]
        rfl
      · have hbI : ((s[i].toNat : Int) == 59) = false := by
          rw [beq_eq_false_iff_ne]
          intro e
          apply hb
          apply UInt8.toNat_inj.1
          show s[i].toNat = 59
          omega
        have HN2 : Hid (∀ j, j < i + 1 → s.data.toList[j]? ≠ some 59) := fun j hj => by
          by_cases e : j = i
          · subst e
            rw [Array.getElem?_toList, Array.getElem?_eq_getElem hlt]
            exact fun g => hb (Option.some.inj g)
          · exact unhide HN j (by omega)
        clear HFIN HN hb
        go_wp2_with fail
        go_roundg (s.size - (i + 1))
        case measure => omega
        case rel => exact ⟨i + 1, by omega, rfl, by go_num, rfl, HN2⟩
    · have hiI : ¬ (i : Int) < (s.size : Int) := by omega
      have HF : Hid (FIN = (s.data.toList, [])) := by
        show _ = _
        rw [unhide HFIN]
        refine Hx.cutF_none _ (fun b hb e => ?_)
        obtain ⟨j, hj, e2⟩ := List.mem_iff_getElem.1 hb
        have hjs : j < s.size := by simpa using hj
        exact unhide HN j (by omega) (by rw [List.getElem?_eq_getElem hj, e2, e])
      clear HFIN HN
      go_wp2_with fail
      go_returns
      refine ⟨?_, 0, rfl⟩
      rw [unhide HF]
      show _ = Ending.returned (.tuple #[.string ⟨s.data.toList.toArray⟩, .string ⟨#[]⟩])
      rw [Array.toArray_toList]
      rfl

end Go.Proofs.YtppcnlkhdgmaiaaDoor
