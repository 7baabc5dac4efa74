/- Rows cell by cell; the same memory with more drawn; entries whose sums do not overflow. The plain mathematics of texts that are read back: what stands in a text from a place on; a numeral, a sign, a name. No program is named here. What hatchkeep's decimal, greater, over do. The plain mathematics of a protocol's text: it is read as what it was written of. No program is named here. What hatchkeep's text does: the protocol of a plan. What hatchkeep's pick does. A shape of raw numbers: how it lies in memory, and the plan that it speaks of. What nextTurns does: the turns that may stand behind what is done, the least first. -/
import Derived.Test.YtppcnlkhdgmaiaaDoorCScE
import Derived.BigQuiet
import Derived.Test.YtppcnlkhdgmaiaaDoorCScA
import Derived.Lib.ItoaNum
import Derived.Test.YtppcnlkhdgmaiaaDoorCPlA
import Derived.Test.YtppcnlkhdgmaiaaDoorCRdD
import Derived.Handy
import Derived.Deep.RegionHeld3
import Derived.IntWalk
namespace Go.Proofs.YtppcnlkhdgmaiaaDoor
open Go.RowKit

theorem flat_at {α : Type} (c : α → List Value) (m : Nat) (hc : ∀ x, (c x).length = m) (l : List α) (j : Nat) (x : α) (h : l[j]? = some x) (t : Nat) (ht : t < m) : (l.flatMap c)[j * m + t]? = (c x)[t]? := by
  induction l generalizing j with
  | nil => simp at h
  | cons y r ih =>
    rw [List.flatMap_cons]
    cases j with
    | zero =>
      simp at h
      subst h
      rw [Nat.zero_mul, Nat.zero_add, List.getElem?_append_left (by rw [hc]; exact ht)]
    | succ j =>
      rw [List.getElem?_append_right (by rw [hc, Nat.succ_mul]; omega), hc, show (j + 1) * m + t - m = j * m + t by rw [Nat.succ_mul]; omega]
      exact ih j (by simpa using h)
theorem mul_lt {j n m t : Nat} (hj : j < n) (ht : t < m) : j * m + t < n * m := by
  have : (j + 1) * m ≤ n * m := Nat.mul_le_mul_right m hj
  rw [Nat.succ_mul] at this
  omega
/-- What a row reads as, cell by cell. -/
theorem own_at {α : Type} (c : α → List Value) (m : Nat) (hc : ∀ x, (c x).length = m) {w : World} {base g n cap : Nat} {e : TypeId} {l : List α} (h : w.ownsRow base e m (.slice (some ⟨g, 0, none⟩) n cap) n (l.flatMap c)) (hn : n = l.length) (j : Nat) (x : α) (hx : l[j]? = some x) (t : Nat) (ht : t < m) :
    w.cell? ⟨g, j * m + t, none⟩ = (c x)[t]? := by
  have hj : j < l.length := (List.getElem?_eq_some_iff.1 hx).1
  rw [h.cellAt (j * m + t) (by rw [hn]; exact mul_lt hj ht), flat_at c m hc l j x hx t ht]

/-- The same memory, more drawn. -/
def Dr (w wr : World) : Prop := ∃ n, wr = w.drewN n
theorem Dr.refl (w : World) : Dr w w := ⟨0, rfl⟩
theorem Dr.more {w wr : World} (h : Dr w wr) (m : Nat) : Dr w (wr.drewN m) := by
  obtain ⟨n, rfl⟩ := h
  exact ⟨n + m, World.drewN_drewN _ _ _⟩
theorem Dr.drew {w wr : World} (h : Dr w wr) : Dr w wr.drew := h.more 1
theorem Dr.cell {w wr : World} (h : Dr w wr) (p : Addr) : wr.cell? p = w.cell? p := by
  obtain ⟨n, rfl⟩ := h
  rfl
theorem Dr.below {w wr : World} (h : Dr w wr) {a : World} {B : Nat} (hb : Below B a w) : Below B a wr := by
  obtain ⟨n, rfl⟩ := h
  exact below_drewN hb n
/-- Numbers that no sum overflows. -/
def Hx.EntS (E : List Hx.Ent) : Prop := ∀ x ∈ E, x.pl < 1000 ∧ x.no < 1000000000 ∧ x.t < 1000000000 ∧ x.lo < 1000000000 ∧ x.hi < 1000000000 ∧ x.mn < 1000000000 ∧ x.mx < 1000000000 ∧ -1 ≤ x.out ∧ x.out < 1000000000 ∧ -1 ≤ x.inn ∧ x.inn < 1000000000
end Go.Proofs.YtppcnlkhdgmaiaaDoor
namespace Go.Proofs.YtppcnlkhdgmaiaaDoor
namespace Hx

/-- What stands in a text from a place on. -/
def Tl (s : ByteArray) (p : Nat) (l : List UInt8) : Prop := s.data.toList.drop p = l
theorem Tl.start (l : List UInt8) : Tl ⟨l.toArray⟩ 0 l := by simp [Tl]
theorem byteAt_list (s : ByteArray) (i : Nat) : byteAt s i = match s.data.toList[i]? with | some b => b.toNat | none => 256 := by
  unfold byteAt
  by_cases h : i < s.size
  · rw [dif_pos h, Array.getElem?_toList, Array.getElem?_eq_getElem h]; rfl
  · rw [dif_neg h, Array.getElem?_toList, Array.getElem?_eq_none (by show s.size ≤ i; omega)]
theorem Tl.get {s : ByteArray} {p : Nat} {l : List UInt8} (h : Tl s p l) : s.data.toList[p]? = l[0]? := by
  have h2 : l[0]? = (s.data.toList.drop p)[0]? := by rw [h]
  rw [h2, List.getElem?_drop, Nat.add_zero]
theorem Tl.byte {s : ByteArray} {p : Nat} {b : UInt8} {r : List UInt8} (h : Tl s p (b :: r)) : byteAt s p = b.toNat := by
  rw [byteAt_list, h.get]; rfl
theorem Tl.none {s : ByteArray} {p : Nat} (h : Tl s p []) : byteAt s p = 256 := by
  rw [byteAt_list, h.get]; rfl
theorem Tl.skip {s : ByteArray} {p : Nat} {a r : List UInt8} (h : Tl s p (a ++ r)) : Tl s (p + a.length) r := by
  unfold Tl at h ⊢
  rw [← List.drop_drop, h, List.drop_left]
theorem Tl.next {s : ByteArray} {p : Nat} {b : UInt8} {r : List UInt8} (h : Tl s p (b :: r)) : Tl s (p + 1) r := Tl.skip (a := [b]) h
theorem Tl.lt {s : ByteArray} {p : Nat} {b : UInt8} {r : List UInt8} (h : Tl s p (b :: r)) : p < s.size :=
  byteAt_in (by rw [h.byte]; exact b.toNat_lt)
theorem Tl.ge {s : ByteArray} {p : Nat} (h : Tl s p []) : s.size ≤ p := by
  rcases Nat.lt_or_ge p s.size with g | g
  · have := h.none
    rw [byteAt_lt g] at this
    have := (s[p]'g).toNat_lt
    omega
  · exact g
theorem Tl.size {s : ByteArray} {p : Nat} {l : List UInt8} (h : Tl s p l) (hp : p ≤ s.size) : p + l.length = s.size := by
  have : (s.data.toList.drop p).length = l.length := by rw [h]
  rw [List.length_drop, Array.length_toList] at this
  have : s.size - p = l.length := this
  omega

/-- No digit stands first. -/
def noDig (r : List UInt8) : Prop := ∀ b, r[0]? = some b → ¬ (48 ≤ b.toNat ∧ b.toNat ≤ 57)
theorem noDig_nil : noDig [] := fun b h => by simp at h
theorem noDig_cons {b : UInt8} {r : List UInt8} (h : ¬ (48 ≤ b.toNat ∧ b.toNat ≤ 57)) : noDig (b :: r) := fun c hc => by
  simp at hc; subst hc; exact h
theorem noDig_app {a r : List UInt8} (h1 : noDig a) (h2 : noDig r) : noDig (a ++ r) := by
  cases a with
  | nil => exact h2
  | cons b a => exact h1
theorem Tl.nodig {s : ByteArray} {p : Nat} {r : List UInt8} (h : Tl s p r) (hr : noDig r) : ¬ (48 ≤ byteAt s p ∧ byteAt s p ≤ 57) := by
  cases r with
  | nil => rw [h.none]; omega
  | cons b r => rw [h.byte]; exact hr b rfl
theorem ofNat_toNat {n : Nat} (h : n < 256) : (UInt8.ofNat n).toNat = n := by
  show n % 256 = n
  exact Nat.mod_eq_of_lt h

/-- The digits of a numeral are read. -/
theorem digF_dec {s : ByteArray} {r : List UInt8} : ∀ (u k p v : Nat), Tl s p (Lib.decDigits u ++ r) →
    digF s (k + Lib.nDigits u) p v = digF s k (p + Lib.nDigits u) (v * 10 ^ Lib.nDigits u + u) := by
  intro u
  induction u using Nat.strongRecOn generalizing r with
  | _ u ih =>
    intro k p v h
    by_cases hu : u < 10
    · rw [Lib.decDigits, dif_pos hu] at h
      rw [Lib.nDigits_small hu]
      have hb := h.byte
      rw [ofNat_toNat (by omega)] at hb
      rw [digF_step ⟨by omega, by omega⟩, hb]
      congr 1
      omega
    · rw [Lib.decDigits, dif_neg hu, List.append_assoc] at h
      rw [Lib.nDigits_big hu]
      have h1 := ih (u / 10) (by omega) (k + 1) p v h
      rw [show k + (Lib.nDigits (u / 10) + 1) = k + 1 + Lib.nDigits (u / 10) by omega, h1]
      have h2 := h.skip
      rw [Lib.decDigits_length] at h2
      have hb := h2.byte
      rw [ofNat_toNat (by omega)] at hb
      rw [digF_step ⟨by omega, by omega⟩, hb, Nat.pow_succ, Nat.add_assoc]
      congr 1
      rw [Nat.add_mul, Nat.mul_assoc]
      omega
theorem itoa_nat (n : Nat) : Lib.itoa (n : Int) = Lib.decDigits n := by
  unfold Lib.itoa
  rw [if_neg (by omega), Int.toNat_natCast]
theorem itoa_len (n : Nat) : (Lib.itoa (n : Int)).length = Lib.nDigits n := by rw [itoa_nat, Lib.decDigits_length]
theorem nDigits_le {u k : Nat} (h : u < 10 ^ (k + 1)) : Lib.nDigits u ≤ k + 1 := by
  induction k generalizing u with
  | zero => rw [Lib.nDigits_small (by simpa using h)]; exact Nat.le_refl _
  | succ k ih =>
    by_cases hu : u < 10
    · rw [Lib.nDigits_small hu]; omega
    · rw [Lib.nDigits_big hu]
      have : u / 10 < 10 ^ (k + 1) := by
        rw [Nat.pow_succ] at h
        omega
      have := ih this
      omega
theorem dec_first {u : Nat} : ∃ (b : UInt8) (r : List UInt8), Lib.decDigits u = b :: r ∧ 48 ≤ b.toNat ∧ b.toNat ≤ 57 ∧ (0 < u → 49 ≤ b.toNat) ∧ (u = 0 → b.toNat = 48 ∧ r = []) := by
  induction u using Nat.strongRecOn with
  | _ u ih =>
    by_cases hu : u < 10
    · rw [Lib.decDigits, dif_pos hu]
      have := ofNat_toNat (n := 48 + u) (by omega)
      exact ⟨_, _, rfl, by omega, by omega, fun _ => by omega, fun _ => ⟨by omega, rfl⟩⟩
    · rw [Lib.decDigits, dif_neg hu]
      obtain ⟨b, r, h1, h2, h3, h4, _⟩ := ih (u / 10) (by omega)
      rw [h1]
      exact ⟨b, r ++ [UInt8.ofNat (48 + u % 10)], rfl, h2, h3, fun _ => h4 (by omega), fun h => by omega⟩
theorem digF_num {s : ByteArray} {p k n : Nat} {r : List UInt8} (h : Tl s p (Lib.itoa (n : Int) ++ r)) (hr : noDig r) (hn : n < 10 ^ (k + 1)) : digF s (k + 1) p 0 = (n, p + Lib.nDigits n) := by
  rw [itoa_nat] at h
  have hle := nDigits_le hn
  have h1 := digF_dec n (k + 1 - Lib.nDigits n) p 0 h
  rw [show k + 1 - Lib.nDigits n + Lib.nDigits n = k + 1 by omega] at h1
  have h2 := h.skip
  rw [Lib.decDigits_length] at h2
  rw [h1, digF_stop (h2.nodig hr)]
  simp
/-- A number that is read. -/
theorem Tl.num {s : ByteArray} {p k n : Nat} {r : List UInt8} (h : Tl s p (Lib.itoa (n : Int) ++ r)) (hr : noDig r) (hn : n < 10 ^ (k + 1)) :
    numF s (k + 1) ⟨p, false⟩ = (n, ⟨p + Lib.nDigits n, false⟩) ∧ Tl s (p + Lib.nDigits n) r := by
  have h2 := h.skip
  rw [itoa_len] at h2
  refine ⟨?_, h2⟩
  obtain ⟨b, q, h1, h3, h4, h5, h6⟩ := dec_first (u := n)
  have hb : byteAt s p = b.toNat := by
    rw [itoa_nat, h1] at h
    exact h.byte
  by_cases h0 : n = 0
  · subst h0
    rw [numF_zero rfl (by rw [show (⟨p, false⟩ : St).pos = p from rfl, hb]; exact (h6 rfl).1), Lib.nDigits_small (by omega)]
  · have := h5 (by omega)
    rw [numF_dig rfl (by show 49 ≤ byteAt s p ∧ byteAt s p ≤ 57; omega)]
    show ((digF s (k + 1) p 0).1, (⟨(digF s (k + 1) p 0).2, false⟩ : St)) = _
    rw [digF_num h hr hn]
theorem Tl.scnum {s : ByteArray} {p n : Nat} {b : Bool} {r : List UInt8} (h : Tl s p (Lib.itoa (n : Int) ++ r)) (hr : noDig r) (hn : n < 10 ^ 9) :
    scNum s ⟨p, b⟩ = (n, ⟨p + Lib.nDigits n, b⟩) ∧ Tl s (p + Lib.nDigits n) r := by
  have h2 := h.skip
  rw [itoa_len] at h2
  refine ⟨?_, h2⟩
  unfold scNum
  rw [show (⟨p, b⟩ : St).pos = p from rfl, digF_num (k := 8) h hr hn]
  have := Lib.nDigits_pos n
  have e : decide (p + Lib.nDigits n = p) = false := decide_eq_false (by omega)
  simp only [e, Bool.or_false]
theorem Tl.must {s : ByteArray} {p c : Nat} {b : UInt8} {bad : Bool} {r : List UInt8} (h : Tl s p (b :: r)) (hc : b.toNat = c) : scMust s c ⟨p, bad⟩ = ⟨p + 1, bad⟩ ∧ Tl s (p + 1) r := by
  refine ⟨?_, h.next⟩
  unfold scMust
  rw [if_pos (by show byteAt s p = c; rw [h.byte, hc])]
theorem Tl.take {s : ByteArray} {p c : Nat} {b : UInt8} {r : List UInt8} (h : Tl s p (b :: r)) (hc : b.toNat = c) : takeF s c ⟨p, false⟩ = ⟨p + 1, false⟩ ∧ Tl s (p + 1) r :=
  ⟨takeF_yes rfl (by show byteAt s p = c; rw [h.byte, hc]), h.next⟩
theorem Tl.one {s : ByteArray} {p lo hi : Nat} {b : UInt8} {r : List UInt8} (h : Tl s p (b :: r)) (h1 : lo ≤ b.toNat) (h2 : b.toNat ≤ hi) : oneF s lo hi ⟨p, false⟩ = (b.toNat - lo, ⟨p + 1, false⟩) ∧ Tl s (p + 1) r := by
  refine ⟨?_, h.next⟩
  rw [oneF_yes rfl (by show lo ≤ byteAt s p; rw [h.byte]; exact h1) (by show byteAt s p ≤ hi; rw [h.byte]; exact h2)]
  show (byteAt s p - lo, _) = _
  rw [h.byte]
theorem Tl.name {s : ByteArray} {p pl no : Nat} {bad : Bool} {r : List UInt8} (h : Tl s p (UInt8.ofNat (97 + pl) :: UInt8.ofNat (48 + no) :: r)) (h1 : pl < 4) (h2 : no < 10) : scName s ⟨p, bad⟩ = ((pl, no), ⟨p + 2, bad⟩) ∧ Tl s (p + 2) r := by
  refine ⟨?_, h.next.next⟩
  have b1 := h.byte
  have b2 := h.next.byte
  rw [ofNat_toNat (by omega)] at b1 b2
  unfold scName
  rw [if_pos (by exact h.next.lt), if_pos ⟨by show 97 ≤ byteAt s p; omega, by show byteAt s p ≤ 100; omega, by show 48 ≤ byteAt s (p + 1); omega, by show byteAt s (p + 1) ≤ 57; omega⟩]
  show ((byteAt s p - 97, byteAt s (p + 1) - 48), _) = _
  rw [b1, b2]
  simp
end Hx
end Go.Proofs.YtppcnlkhdgmaiaaDoor
namespace Go.Proofs.YtppcnlkhdgmaiaaDoor
open Go.RowKit

theorem dec_is (n : Nat) : Hx.decF n = Lib.itoa (n : Int) := by
  have e : ∀ n, Hx.decF n = Lib.decDigits n := by
    intro n
    induction n using Hx.decF.induct with
    | case1 n h => rw [Hx.decF, if_pos h, Lib.decDigits, dif_pos h]
    | case2 n h ih => rw [Hx.decF, if_neg h, Lib.decDigits, dif_neg h, ih]
  rw [e, Hx.itoa_nat]

set_option maxHeartbeats 1000000 in
theorem kdecimal_any (n0 : Nat) (ni : Int) (w : World) (hn : n0 ≤ 1000000) (hni : ni = (n0 : Int)) :
    Calls Tryd.prog 18 #[.int .i64 ni] w fun e w' => e = .returned (.string ⟨(Hx.decF n0).toArray⟩) ∧ w' = w := by
  subst hni
  go_enter Tryd.func18, Tryd.ntmps18
  go_wp2_with fail
  go_loopg [0, 3] n0 (fun gk n t wr => ∃ l : List UInt8, n = .int .i64 (gk : Int) ∧ t = .string ⟨l.toArray⟩ ∧ gk + l.length ≤ n0 ∧ Hx.decF gk ++ l = Hx.decF n0 ∧ wr = w)
  case atStart => exact ⟨[], rfl, rfl, by simp, by simp, rfl⟩
  case round =>
    obtain ⟨l, rfl, rfl, hm, hd, hw⟩ := hrel
    subst hw
    have HD := hide hd
    clear hd
    by_cases h9 : (9 : Int) < (gk : Int)
    · have hs := hide (digit_app (gk % 10) (by omega) l)
      have HD2 : Hid (Hx.decF (gk / 10) ++ ([UInt8.ofNat (48 + gk % 10)] ++ l) = Hx.decF n0) := by
        show _ = _
        rw [← unhide HD, Hx.decF_more (n := gk) (by omega), List.append_assoc]
      go_wp2_with fail
      go_roundg (gk / 10)
      case measure => omega
      case rel => exact ⟨_, by go_num, by rw [unhide hs], by rw [List.length_append]; show gk / 10 + (1 + l.length) ≤ n0; omega, unhide HD2, rfl⟩
    · have hs := hide (digit_app gk (by omega) l)
      have HD2 : Hid ([UInt8.ofNat (48 + gk)] ++ l = Hx.decF n0) := by
        show _ = _
        rw [← unhide HD, Hx.decF_one (n := gk) (by omega)]
      have h9' : (gk : Int) ≤ 9 := by omega
      clear h9
      go_wp2_with fail
      go_returns
      exact ⟨ret_str (by rw [← unhide HD2]; exact unhide hs), rfl⟩
/-- A number's digits, under a letter. -/
theorem kdec_as (n : Nat) (b : ByteArray) (w : World) (hn : n ≤ 1000000) (hb : b = ⟨(Lib.itoa (n : Int)).toArray⟩) :
    Calls Tryd.prog 18 #[.int .i64 (n : Int)] w fun e w' => e = .returned (.string b) ∧ w' = w := by
  refine (kdecimal_any n _ w hn rfl).mono ?_
  rintro e w' ⟨rfl, rfl⟩
  exact ⟨by rw [hb, dec_is], rfl⟩
theorem Hx.itoa_seven {n : Nat} (hn : n ≤ 1000000) : (Lib.itoa (n : Int)).length ≤ 7 := by
  rw [Hx.itoa_len]
  exact Hx.nDigits_le (k := 6) (by omega)

theorem kgreater_any (a b : Int) (w : World) : Calls Tryd.prog 41 #[.int .i64 a, .int .i64 b] w fun e w' => e = .returned (.int .i64 (if b < a then a else b)) ∧ w' = w := by
  by_cases h : b < a
  · rw [if_pos h]
    go_enter Tryd.func41, Tryd.ntmps41
    go_wp2_with fail
    go_returns
    exact ⟨rfl, rfl⟩
  · rw [if_neg h]
    go_enter Tryd.func41, Tryd.ntmps41
    go_wp2_with fail
    go_returns
    exact ⟨rfl, rfl⟩

/-- When entries are surely over. -/
def Hx.overF (E : List Hx.Ent) (J : Nat) : Int := match E.getLast? with | some x => (x.t : Int) + J + x.hi | none => 0
set_option maxHeartbeats 1000000 in
theorem kover_any (E : List Hx.Ent) (J : Nat) (v : Value) (w : World) (hJ : J < 1000000000) (hE : Hx.EntS E) (hl : E.length ≤ 1000000) (ho : w.ownsRow 0 55 9 v E.length (entsCells E)) :
    Calls Tryd.prog 23 #[v, .int .i64 (J : Int)] w fun e w' => e = .returned (.int .i64 (Hx.overF E J)) ∧ Dr w w' := by
  obtain ⟨ao, cap, rfl⟩ := own_form ho
  cases hlast : E.getLast? with
  | none =>
    have hnil : E = [] := List.getLast?_eq_none_iff.1 hlast
    have hz : E.length = 0 := by rw [hnil]; rfl
    have HF : Hid (Hx.overF E J = 0) := by show _ = _; unfold Hx.overF; rw [hlast]
    rw [unhide HF, hz]
    clear ho hlast hnil hz hE hl HF
    go_enter Tryd.func23, Tryd.ntmps23
    go_wp2_with fail
    go_returns
    exact ⟨rfl, Dr.refl _⟩
  | some x =>
    have HF : Hid (Hx.overF E J = (x.t : Int) + J + x.hi) := by show _ = _; unfold Hx.overF; rw [hlast]
    have hx : E[E.length - 1]? = some x := by rw [List.getLast?_eq_getElem?] at hlast; exact hlast
    obtain ⟨s1, s2, s3, s4, s5, s6, s7, s8, s9, _, _⟩ := hE x (List.mem_of_getElem? hx)
    have hpos : 0 < E.length := by have := (List.getElem?_eq_some_iff.1 hx).1; omega
    obtain ⟨gt, capt, et, _, _⟩ := own_pos ho hpos
    cases et
    obtain ⟨n, hn⟩ : ∃ n, E.length = n + 1 := ⟨E.length - 1, by omega⟩
    rw [hn] at ho hx ⊢
    have hx' : E[n]? = some x := by simpa using hx
    have x2 : w.cell? ⟨gt, n * 9 + 2, none⟩ = some (.int .i64 (x.t : Int)) := own_at entCells 9 (fun _ => rfl) ho hn.symm n x hx' 2 (by omega)
    have x4 : w.cell? ⟨gt, n * 9 + 4, none⟩ = some (.int .i64 (x.hi : Int)) := own_at entCells 9 (fun _ => rfl) ho hn.symm n x hx' 4 (by omega)
    have hwI : IntKind.i64.wrap (((n + 1 : Nat) : Int) - 1) = (n : Int) := by
      rw [show ((n + 1 : Nat) : Int) - 1 = (n : Int) by omega]
      exact IntWalk.i64_in _ ⟨by omega, by omega⟩
    have hk1 : (0 : Int) ≤ (n : Int) := by omega
    have hk2 : (n : Int) < ((n + 1 : Nat) : Int) := by omega
    have hz0 : (((n + 1 : Nat) : Int) == 0) = false := by simp; omega
    rw [unhide HF]
    have hnl : n ≤ 1000000 := by omega
    clear ho hx hx' hlast hE hl hpos hn HF
    go_enter Tryd.func23, Tryd.ntmps23
    go_wp2_with fail
    go_quiet (fail)
    go_wp2_with fail
    go_returns
    refine ⟨rfl, ?_⟩
    first | exact Dr.refl _ | exact (Dr.refl _).more _ | exact ((Dr.refl _).more _).more _
end Go.Proofs.YtppcnlkhdgmaiaaDoor
namespace Go.Proofs.YtppcnlkhdgmaiaaDoor
namespace Hx

/-- Bounds, a step behind another, a plate, a protocol, as they are written. -/
def bB (lo hi : Nat) : List UInt8 := Lib.itoa (lo : Int) ++ [45] ++ Lib.itoa (hi : Int)
def joinR (x : Stp) : List UInt8 := if x.rest then [126] ++ bB x.mn x.mx ++ [126] else [44]
def contB (x : Stp) : List UInt8 := joinR x ++ bB x.lo x.hi
def openB (n : Nat) : List UInt8 := [59, UInt8.ofNat (97 + n), 61]
def plateB (n : Nat) : List Stp → List UInt8
  | [] => []
  | x :: r => openB n ++ bB x.lo x.hi ++ r.flatMap contB
def platesB : Nat → List (List Stp) → List UInt8
  | _, [] => []
  | n, q :: r => plateB n q ++ platesB (n + 1) r
def headB3 (J K D : Nat) : List UInt8 := [106] ++ Lib.itoa (J : Int) ++ [107] ++ Lib.itoa (K : Int) ++ [100] ++ Lib.itoa (D : Int)
def textB (J K D : Nat) (ps : List (List Stp)) : List UInt8 := headB3 J K D ++ platesB 0 ps
/-- A step as it can be written and read. -/
structure NS (x : Stp) : Prop where
  lo : x.lo < 1000
  hi : x.hi < 1000
  mn : x.mn < 1000
  mx : x.mx < 1000
  no : x.rest = false → x.mn = 0 ∧ x.mx = 0

theorem Tl.bounds {s : ByteArray} {p lo hi : Nat} {r : List UInt8} (h : Tl s p (bB lo hi ++ r)) (hr : noDig r) (h1 : lo < 1000) (h2 : hi < 1000) :
    ∃ q, boundsF s ⟨p, false⟩ = (⟨lo, hi⟩, ⟨q, false⟩) ∧ Tl s q r := by
  have h' : Tl s p (Lib.itoa (lo : Int) ++ (45 :: (Lib.itoa (hi : Int) ++ r))) := by
    have e : bB lo hi ++ r = Lib.itoa (lo : Int) ++ (45 :: (Lib.itoa (hi : Int) ++ r)) := by simp [bB]
    rw [← e]; exact h
  obtain ⟨e1, t1⟩ := h'.num (k := 2) (noDig_cons (by decide)) h1
  obtain ⟨e2, t2⟩ := t1.take (c := 45) (by rfl)
  obtain ⟨e3, t3⟩ := t2.num (k := 2) hr h2
  refine ⟨_, ?_, t3⟩
  unfold boundsF
  rw [e1]; dsimp only; rw [e2, e3]
/-- What may stand behind a step: nothing, or a sign that ends the plate. -/
def ends (r : List UInt8) : Prop := ∀ b, r[0]? = some b → b = 59
theorem ends_dig {r : List UInt8} (h : ends r) : noDig r := fun b hb => by rw [h b hb]; decide
theorem joinR_dig (x : Stp) (r : List UInt8) : noDig (joinR x ++ r) := by
  unfold joinR
  split
  · exact noDig_cons (by decide)
  · exact noDig_cons (by decide)
theorem cont_dig {q : List Stp} {r : List UInt8} (h : ends r) : noDig (q.flatMap contB ++ r) := by
  cases q with
  | nil => exact ends_dig h
  | cons x q =>
    rw [List.flatMap_cons, List.append_assoc, contB, List.append_assoc]
    exact joinR_dig x _
theorem after_read {s : ByteArray} {r : List UInt8} (hr : ends r) : ∀ (q : List Stp) (acc : List Stp) (p : Nat), (∀ x ∈ q, NS x) → Tl s p (q.flatMap contB ++ r) →
    ∃ p', afterF s ⟨p, false⟩ acc = (⟨p', false⟩, acc ++ q) ∧ Tl s p' r
  | [], acc, p, _, h => by
    have h0 : Tl s p r := h
    refine ⟨p, ?_, h0⟩
    rw [List.append_nil]
    cases r with
    | nil => exact afterF_stop (by show byteAt s p ≠ 44; rw [h0.none]; omega) (by show byteAt s p ≠ 126; rw [h0.none]; omega)
    | cons b r =>
      have := hr b rfl
      subst this
      exact afterF_stop (by show byteAt s p ≠ 44; rw [h0.byte]; decide) (by show byteAt s p ≠ 126; rw [h0.byte]; decide)
  | x :: q, acc, p, hx, h => by
    have hn := hx x (by simp)
    rw [List.flatMap_cons, List.append_assoc, contB, List.append_assoc] at h
    have hd : noDig (q.flatMap contB ++ r) := cont_dig hr
    cases hrest : x.rest with
    | false =>
      obtain ⟨m1, m2⟩ := hn.no hrest
      have e : joinR x = [44] := by simp [joinR, hrest]
      rw [e] at h
      obtain ⟨p1, e1, t1⟩ := Tl.bounds (h.next) hd hn.lo hn.hi
      have hc := afterF_comma (s := s) (st := ⟨p, false⟩) (acc := acc) rfl (by show byteAt s p = 44; rw [h.byte]; rfl)
      simp only [e1] at hc
      obtain ⟨p2, e2, t2⟩ := after_read hr q (acc ++ [⟨x.lo, x.hi, false, 0, 0⟩]) p1 (fun y hy => hx y (by simp [hy])) t1
      refine ⟨p2, ?_, t2⟩
      rw [hc, e2]
      have : x = ⟨x.lo, x.hi, false, 0, 0⟩ := by
        obtain ⟨a, b, c, d, f⟩ := x
        simp at hrest m1 m2
        simp [hrest, m1, m2]
      rw [this]; simp
    | true =>
      have e : joinR x = 126 :: (bB x.mn x.mx ++ [126]) := by simp [joinR, hrest]
      rw [e, List.cons_append, List.append_assoc] at h
      have hb : byteAt s p = 126 := by rw [h.byte]; rfl
      obtain ⟨e0, t0⟩ := h.take (c := 126) (by rfl)
      obtain ⟨p1, e1, t1⟩ := Tl.bounds t0 (noDig_cons (by decide)) hn.mn hn.mx
      obtain ⟨e2, t2⟩ := t1.take (c := 126) (by rfl)
      obtain ⟨p3, e3, t3⟩ := Tl.bounds t2 hd hn.lo hn.hi
      have hR : restF s ⟨p, false⟩ = (x, ⟨p3, false⟩) := by
        unfold restF
        rw [e0, e1]; dsimp only; rw [e2, e3]; dsimp only
        obtain ⟨a, b, c, d, f⟩ := x
        simp at hrest
        simp [hrest]
      have hc := afterF_rest (s := s) (st := ⟨p, false⟩) (acc := acc) rfl hb
      rw [hR] at hc
      obtain ⟨p4, e4, t4⟩ := after_read hr q (acc ++ [x]) p3 (fun y hy => hx y (by simp [hy])) t3
      refine ⟨p4, ?_, t4⟩
      rw [hc, e4]
      simp
/-- A plate: its first step has no rest. -/
def NP (q : List Stp) : Prop := (∃ x r, q = x :: r ∧ x.rest = false) ∧ ∀ x ∈ q, NS x
theorem plate_read {s : ByteArray} {r : List UInt8} (hr : ends r) {q : List Stp} {n p : Nat} (hn : n < 26) (hq : NP q) (h : Tl s p (plateB n q ++ r)) :
    ∃ p', plateF s n ⟨p, false⟩ = (⟨p', false⟩, q) ∧ Tl s p' r := by
  obtain ⟨⟨x, l, rfl, hrest⟩, hx⟩ := hq
  have h' : Tl s p (59 :: UInt8.ofNat (97 + n) :: 61 :: (bB x.lo x.hi ++ (l.flatMap contB ++ r))) := by
    have e : plateB n (x :: l) ++ r = 59 :: UInt8.ofNat (97 + n) :: 61 :: (bB x.lo x.hi ++ (l.flatMap contB ++ r)) := by simp [plateB, openB]
    rw [← e]; exact h
  have hns := hx x (by simp)
  obtain ⟨m1, m2⟩ := hns.no hrest
  obtain ⟨e1, t1⟩ := h'.take (c := 59) (by rfl)
  obtain ⟨e2, t2⟩ := t1.take (c := 97 + n) (ofNat_toNat (by omega))
  obtain ⟨e3, t3⟩ := t2.take (c := 61) (by rfl)
  have eo : openF s n ⟨p, false⟩ = ⟨p + 1 + 1 + 1, false⟩ := by
    unfold openF letterF
    rw [e1, if_pos hn, e2, e3]
  obtain ⟨p1, e4, t4⟩ := Tl.bounds t3 (cont_dig hr) hns.lo hns.hi
  obtain ⟨p2, e5, t5⟩ := after_read hr l [⟨x.lo, x.hi, false, 0, 0⟩] p1 (fun y hy => hx y (by simp [hy])) t4
  refine ⟨p2, ?_, t5⟩
  unfold plateF
  rw [eo, e4]; dsimp only; rw [e5]
  have : x = ⟨x.lo, x.hi, false, 0, 0⟩ := by
    obtain ⟨a, b, c, d, f⟩ := x
    simp at hrest m1 m2
    simp [hrest, m1, m2]
  rw [← this]; rfl
theorem plates_ends (n : Nat) (ps : List (List Stp)) (h : ∀ q ∈ ps, NP q) : ends (platesB n ps) := by
  cases ps with
  | nil => intro b hb; simp [platesB] at hb
  | cons q ps =>
    obtain ⟨⟨x, l, rfl, _⟩, _⟩ := h q (by simp)
    intro b hb
    simp [platesB, plateB, openB] at hb
    exact hb.symm
theorem plates_read {s : ByteArray} : ∀ (ps acc : List (List Stp)) (p : Nat), ps ≠ [] → acc.length + ps.length ≤ 26 → (∀ q ∈ ps, NP q) → Tl s p (platesB acc.length ps) →
    ∃ p', platesF s ⟨p, false⟩ acc = (⟨p', false⟩, acc ++ ps)
  | [], _, _, h, _, _, _ => absurd rfl h
  | q :: ps, acc, p, _, hl, hq, h => by
    rw [List.length_cons] at hl
    obtain ⟨p1, e1, t1⟩ := plate_read (plates_ends _ ps (fun y hy => hq y (by simp [hy]))) (by omega) (hq q (by simp)) h
    cases ps with
    | nil =>
      have t2 : Tl s p1 [] := t1
      exact ⟨p1, by rw [platesF_end (by rw [e1]) (by rw [e1]; exact t2.ge), e1]⟩
    | cons q2 ps =>
      obtain ⟨⟨x, l, e, _⟩, _⟩ := hq q2 (by simp)
      have hlt : p1 < s.size := by
        refine Tl.lt (b := 59) (r := UInt8.ofNat (97 + (acc.length + 1)) :: 61 :: (bB x.lo x.hi ++ (l.flatMap contB ++ platesB (acc.length + 1 + 1) ps))) ?_
        have e2 : platesB (acc.length + 1) (q2 :: ps) = 59 :: UInt8.ofNat (97 + (acc.length + 1)) :: 61 :: (bB x.lo x.hi ++ (l.flatMap contB ++ platesB (acc.length + 1 + 1) ps)) := by
          rw [e]; simp [platesB, plateB, openB]
        rw [← e2]; exact t1
      obtain ⟨p2, e2⟩ := plates_read (q2 :: ps) (acc ++ [q]) p1 (by simp) (by simp; simp at hl; omega) (fun y hy => hq y (by simp at hy ⊢; exact Or.inr hy)) (by rw [List.length_append]; exact t1)
      exact ⟨p2, by rw [platesF_more (by rw [e1]) (by rw [e1]; exact hlt), e1, e2]; simp⟩
/-- A protocol is read as what it was written of. -/
theorem text_read {J K D : Nat} {ps : List (List Stp)} (hJ : J < 10) (hK : K < 10) (hD : D < 10000) (h0 : ps ≠ []) (h26 : ps.length ≤ 26) (hp : ∀ q ∈ ps, NP q) {s : ByteArray} (hs : s = ⟨(textB J K D ps).toArray⟩) :
    (headJ s).1 = J ∧ (headK s).1 = K ∧ (headD s).1 = D ∧ (protF s).1.bad = false ∧ (protF s).2 = ps := by
  have h := Tl.start (textB J K D ps)
  rw [← hs] at h
  have h' : Tl s 0 (106 :: (Lib.itoa (J : Int) ++ (107 :: (Lib.itoa (K : Int) ++ (100 :: (Lib.itoa (D : Int) ++ platesB 0 ps)))))) := by
    have e : textB J K D ps = 106 :: (Lib.itoa (J : Int) ++ (107 :: (Lib.itoa (K : Int) ++ (100 :: (Lib.itoa (D : Int) ++ platesB 0 ps))))) := by simp [textB, headB3]
    rw [← e]; exact h
  obtain ⟨e1, t1⟩ := h'.take (c := 106) (by rfl)
  obtain ⟨e2, t2⟩ := t1.num (k := 0) (noDig_cons (by decide)) (by simpa using hJ)
  obtain ⟨e3, t3⟩ := t2.take (c := 107) (by rfl)
  obtain ⟨e4, t4⟩ := t3.num (k := 0) (noDig_cons (by decide)) (by simpa using hK)
  obtain ⟨e5, t5⟩ := t4.take (c := 100) (by rfl)
  obtain ⟨e6, t6⟩ := t5.num (k := 3) (ends_dig (plates_ends 0 ps hp)) (by simpa using hD)
  have j : headJ s = (J, ⟨0 + 1 + Lib.nDigits J, false⟩) := by unfold headJ; rw [e1, e2]
  have k : headK s = (K, ⟨0 + 1 + Lib.nDigits J + 1 + Lib.nDigits K, false⟩) := by unfold headK; rw [j]; dsimp only; rw [e3, e4]
  have d : headD s = (D, ⟨0 + 1 + Lib.nDigits J + 1 + Lib.nDigits K + 1 + Lib.nDigits D, false⟩) := by unfold headD; rw [k]; dsimp only; rw [e5, e6]
  obtain ⟨p', e7⟩ := plates_read ps [] _ h0 (by simpa using h26) hp t6
  refine ⟨by rw [j], by rw [k], by rw [d], ?_, ?_⟩
  · unfold protF; rw [d]; dsimp only; rw [e7]
  · unfold protF; rw [d]; dsimp only; rw [e7]; rfl
/-- What Check says of it. -/
theorem text_check {J K D : Nat} {ps : List (List Stp)} (hJ : J < 10) (hK : K < 10) (hD : D < 10000) (h0 : ps ≠ []) (h4 : ps.length ≤ 4) (h5 : ∀ q ∈ ps, q.length ≤ 5) (h9 : ps.flatten.length ≤ 9) (hp : ∀ q ∈ ps, NP q)
    (hw : ∀ q ∈ ps, ∀ x ∈ q, wrongB K x = false) {s : ByteArray} (hs : s = ⟨(textB J K D ps).toArray⟩) : checkF s = if 120 < s.size then (1, 0) else (0, 0) := by
  obtain ⟨_, e2, _, e4, e5⟩ := text_read hJ hK hD h0 (by omega) hp hs
  unfold checkF
  split
  · rfl
  · rw [if_neg (by rw [e4]; simp), e2, e5]
    unfold verdict
    have hf : firstWrong K ps = none := by
      unfold firstWrong
      rw [List.findIdx?_eq_none_iff]
      intro x hx
      obtain ⟨q, hq, hxq⟩ := List.mem_flatten.1 hx
      exact hw q hq x hxq
    have hm : manyB ps = false := by
      unfold manyB
      simp only [Bool.or_eq_false_iff, List.any_eq_false, decide_eq_true_eq, decide_eq_false_iff_not]
      exact ⟨⟨fun q hq => by have := h5 q hq; omega, by omega⟩, by omega⟩
    rw [hf, hm]
    rfl
end Hx
end Go.Proofs.YtppcnlkhdgmaiaaDoor
namespace Go.Proofs.YtppcnlkhdgmaiaaDoor
open Go.RowKit

namespace Hx
/-- What is written of a step of a plan. -/
def lstB (y : Lst) : List UInt8 := (if y.no = 0 then openB y.pl else joinR y.x) ++ bB y.x.lo y.x.hi
def textL (J K D : Nat) (L : List Lst) : List UInt8 := headB3 J K D ++ L.flatMap lstB
theorem lab_cons (n : Nat) (x : Stp) (r : List Stp) : lab n (x :: r) = ⟨n, 0, x⟩ :: (r.mapIdx fun j y => (⟨n, j + 1, y⟩ : Lst)) := by
  simp [lab, List.mapIdx_cons]
theorem cont_lst (n : Nat) : ∀ (r : List Stp) (k : Nat), (r.mapIdx fun j y => (⟨n, j + (k + 1), y⟩ : Lst)).flatMap lstB = r.flatMap contB
  | [], _ => rfl
  | x :: r, k => by
    rw [List.mapIdx_cons, List.flatMap_cons, List.flatMap_cons]
    have e : (fun (i : Nat) (y : Stp) => (⟨n, i + 1 + (k + 1), y⟩ : Lst)) = fun i y => ⟨n, i + (k + 1 + 1), y⟩ := by
      funext i y; congr 1; omega
    rw [e, cont_lst n r (k + 1)]
    have e2 : lstB ⟨n, 0 + (k + 1), x⟩ = contB x := by simp [lstB, contB]
    rw [e2]
theorem plate_lst (n : Nat) (q : List Stp) : (lab n q).flatMap lstB = plateB n q := by
  cases q with
  | nil => rfl
  | cons x r =>
    rw [lab_cons, List.flatMap_cons, cont_lst n r 0, plateB]
    simp [lstB]
theorem plates_lst : ∀ (ps : List (List Stp)) (n : Nat), ((ps.mapIdx fun i q => lab (i + n) q).flatten).flatMap lstB = platesB n ps
  | [], _ => rfl
  | q :: ps, n => by
    rw [List.mapIdx_cons, List.flatten_cons, List.flatMap_append, platesB, Nat.zero_add, plate_lst]
    have e : (fun (i : Nat) (q : List Stp) => lab (i + 1 + n) q) = fun i q => lab (i + (n + 1)) q := by
      funext i q; congr 1; omega
    rw [e, plates_lst ps (n + 1)]
theorem text_lst (J K D : Nat) (ps : List (List Stp)) : textL J K D (labs ps) = textB J K D ps := by
  unfold textL textB
  have := plates_lst ps 0
  simp only [Nat.add_zero] at this
  rw [← this]
  rfl
end Hx

/-- A step of a plan: seven cells. -/
def kstCells (y : Hx.Lst) : List Value := [.int .i64 (y.pl : Int), .int .i64 (y.no : Int), .int .i64 (y.x.lo : Int), .int .i64 (y.x.hi : Int), .bool y.x.rest, .int .i64 (y.x.mn : Int), .int .i64 (y.x.mx : Int)]
def ksCells (l : List Hx.Lst) : List Value := l.flatMap kstCells
theorem ksCells_snoc (l : List Hx.Lst) (y : Hx.Lst) : ksCells (l ++ [y]) = ksCells l ++ kstCells y := by simp [ksCells]
theorem kstCells_one (y : Hx.Lst) : ∀ u ∈ kstCells y, u.oneCell' = true := by
  intro u hu
  simp [kstCells] at hu
  rcases hu with rfl | rfl | rfl | rfl | rfl | rfl | rfl <;> rfl
theorem Tryd.infoKst : (Tryd.prog.info? 39).map (fun i => (i.zero, i.size, i.bytes)) = some (some (.agg #[.int .i64 0, .int .i64 0, .int .i64 0, .int .i64 0, .bool false, .int .i64 0, .int .i64 0]), 7, 56) := by kernel_rfl
/-- A plan, as it is handed on. -/
abbrev planV (J K D : Nat) (v : Value) : Value := .agg #[.int .i64 (J : Int), .int .i64 (K : Int), .int .i64 (D : Int), v]
/-- What a plan's steps are like. -/
structure KS (y : Hx.Lst) : Prop where
  pl : y.pl < 4
  no : y.no < 10
  lo : y.x.lo < 1000
  hi : y.x.hi < 1000
  mn : y.x.mn < 1000
  mx : y.x.mx < 1000

theorem bQ {w : World} {k : Nat} {x : Obj} (n : Nat) (h : w.heap[k]? = some x) : (w.drewN n).heap[k]? = some x := h
theorem letter4_ext : ∀ d, d < 4 → (⟨#[97, 98, 99, 100]⟩ : ByteArray).extract d (d + 1) = ⟨#[UInt8.ofNat (97 + d)]⟩ := by decide

theorem kdec_gen (z : Int) (w : World) (h0 : 0 ≤ z) (h1 : z ≤ 1000000) : Calls Tryd.prog 18 #[.int .i64 z] w fun e w' => e = .returned (.string ⟨(Lib.itoa z).toArray⟩) ∧ w' = w := by
  have e1 : z = (z.toNat : Int) := by omega
  rw [e1]; exact kdec_as z.toNat _ w (by omega) rfl
theorem head3_is (J K D : Nat) :
    (⟨#[106]⟩ ++ ⟨(Lib.itoa (J : Int)).toArray⟩ ++ ⟨#[107]⟩ ++ ⟨(Lib.itoa (K : Int)).toArray⟩ ++ ⟨#[100]⟩ ++ ⟨(Lib.itoa (D : Int)).toArray⟩ : ByteArray) = ⟨(Hx.headB3 J K D).toArray⟩ := by
  apply ByteArray.ext
  simp [Hx.headB3]
theorem head3_len {J K D : Nat} (hJ : J ≤ 1000000) (hK : K ≤ 1000000) (hD : D ≤ 1000000) : (Hx.headB3 J K D).length ≤ 30 := by
  have a := Hx.itoa_seven hJ
  have b := Hx.itoa_seven hK
  have c := Hx.itoa_seven hD
  simp [Hx.headB3]
  omega
theorem textL_snoc (J K D : Nat) (L : List Hx.Lst) (i : Nat) (y : Hx.Lst) (h : L[i]? = some y) : Hx.textL J K D (L.take (i + 1)) = Hx.textL J K D (L.take i) ++ Hx.lstB y := by
  unfold Hx.textL
  rw [List.take_add_one, h]
  simp
theorem lst_len {y : Hx.Lst} (h : KS y) : (Hx.lstB y).length ≤ 40 := by
  have a := Hx.itoa_seven (n := y.x.lo) (by have := h.lo; omega)
  have b := Hx.itoa_seven (n := y.x.hi) (by have := h.hi; omega)
  have c := Hx.itoa_seven (n := y.x.mn) (by have := h.mn; omega)
  have d := Hx.itoa_seven (n := y.x.mx) (by have := h.mx; omega)
  unfold Hx.lstB Hx.joinR Hx.openB Hx.bB
  split
  · simp; omega
  · split <;> simp <;> omega

theorem textL_len {J K D : Nat} (hJ : J ≤ 1000000) (hK : K ≤ 1000000) (hD : D ≤ 1000000) : ∀ (L : List Hx.Lst), (∀ y ∈ L, KS y) → (Hx.textL J K D L).length ≤ 30 + 40 * L.length := by
  intro L hL
  have h1 := head3_len hJ hK hD
  have h2 : (L.flatMap Hx.lstB).length ≤ 40 * L.length := by
    clear h1
    induction L with
    | nil => simp
    | cons y L ih =>
      have a := lst_len (hL y (by simp))
      have b := ih (fun z hz => hL z (by simp [hz]))
      rw [List.flatMap_cons, List.length_append, List.length_cons]
      omega
  unfold Hx.textL
  rw [List.length_append]
  omega

set_option maxRecDepth 100000 in
set_option maxHeartbeats 2000000 in
theorem text_any (J K D : Nat) (L : List Hx.Lst) (v : Value) (w : World) (hJ : J ≤ 1000000) (hK : K ≤ 1000000) (hD : D ≤ 1000000) (hL : ∀ y ∈ L, KS y) (hl : L.length ≤ 1000)
    (ho : w.ownsRow 0 39 7 v L.length (ksCells L)) :
    Calls Tryd.prog 13 #[planV J K D v] w fun e w' => e = .returned (.string ⟨(Hx.textL J K D L).toArray⟩) ∧ Below w.heap.size w w' := by
  obtain ⟨ao, cap, rfl⟩ := own_form ho
  have sj := Hx.itoa_seven hJ
  have sk := Hx.itoa_seven hK
  have sd := Hx.itoa_seven hD
  have HO := hide ho
  have HL := hide hL
  clear ho hL
  have n1 : ¬ 9223372036854775807 < 1 + (Lib.itoa (J : Int)).length := by omega
  have n2 : ¬ 9223372036854775807 < 1 + (Lib.itoa (J : Int)).length + 1 := by omega
  have n3 : ¬ 9223372036854775807 < 1 + (Lib.itoa (J : Int)).length + 1 + (Lib.itoa (K : Int)).length := by omega
  have n4 : ¬ 9223372036854775807 < 1 + (Lib.itoa (J : Int)).length + 1 + (Lib.itoa (K : Int)).length + 1 := by omega
  have n5 : ¬ 9223372036854775807 < 1 + (Lib.itoa (J : Int)).length + 1 + (Lib.itoa (K : Int)).length + 1 + (Lib.itoa (D : Int)).length := by omega
  have j0 : (0 : Int) ≤ (J : Int) := by omega
  have j1 : (J : Int) ≤ 1000000 := by omega
  have k0 : (0 : Int) ≤ (K : Int) := by omega
  have k1 : (K : Int) ≤ 1000000 := by omega
  have d0 : (0 : Int) ≤ (D : Int) := by omega
  have d1 : (D : Int) ≤ 1000000 := by omega
  have HB0 := hide ((Below.refl w.heap.size w).alloc (Nat.le_refl _) (.cells #[.int .i64 (J : Int), .int .i64 (K : Int), .int .i64 (D : Int), .slice ao L.length cap] 28))
  have HP0 := hide (blk_new w #[.int .i64 (J : Int), .int .i64 (K : Int), .int .i64 (D : Int), .slice ao L.length cap] 28)
  go_enter Tryd.func13, Tryd.ntmps13
  go_upto_region 1 with fail
  generalize w.alloc (.cells #[.int .i64 (J : Int), .int .i64 (K : Int), .int .i64 (D : Int), .slice ao L.length cap] 28) = w1 at HB0 HP0 ⊢
  have p0 : w1.cell? ⟨w.heap.size, 0, none⟩ = some (.int .i64 (J : Int)) := blk_cell (unhide HP0) 0
  have p1 : w1.cell? ⟨w.heap.size, 1, none⟩ = some (.int .i64 (K : Int)) := blk_cell (unhide HP0) 1
  have p2 : w1.cell? ⟨w.heap.size, 2, none⟩ = some (.int .i64 (D : Int)) := blk_cell (unhide HP0) 2
  go_quiet ((go_at_call 18; refine Calls.quiet_of_same (kdec_gen _ _ (by assumption) (by assumption))))
  go_upto_region 2 with fail
  clear n1 n2 n3 n4 n5 j0 j1 k0 k1 d0 d1 p0 p1 p2
  go_wp2_with fail
  go_loopg [3, 4] L.length (fun gk ts ii wr => ∃ i : Nat, i ≤ L.length ∧ gk = L.length - i ∧ ii = .int .i64 (i : Int) ∧ ts = .string ⟨(Hx.textL J K D (L.take i)).toArray⟩ ∧ wr.heap[w.heap.size]? = some (.cells #[.int .i64 (J : Int), .int .i64 (K : Int), .int .i64 (D : Int), .slice ao L.length cap] 28 (0, 0)) ∧ Below w.heap.size w wr)
  case atStart => exact ⟨0, Nat.zero_le _, rfl, rfl, by rw [head3_is]; simp [Hx.textL], unhide HP0, below_drewN (unhide HB0) _⟩
  case round =>
    clear HP0 HB0
    obtain ⟨i, hi, rfl, rfl, rfl, hblk, hbe⟩ := hrel
    have p3 : wr.cell? ⟨w.heap.size, 3, none⟩ = some (.slice ao L.length cap) := blk_cell hblk 3
    have HBLK := hide hblk
    have HBE := hide hbe
    clear hblk hbe
    by_cases hlt : i < L.length
    · have hltI : (i : Int) < (L.length : Int) := by omega
      obtain ⟨y, hy⟩ : ∃ y, L[i]? = some y := ⟨L[i], List.getElem?_eq_getElem hlt⟩
      have HKS := hide (unhide HL y (List.mem_of_getElem? hy))
      obtain ⟨gs, caps, es, _, hgs⟩ := own_pos (unhide HO) (by omega)
      cases es
      have cx : ∀ t, t < 7 → wr.cell? ⟨gs, i * 7 + t, none⟩ = (kstCells y)[t]? := fun t h => by
        rw [(unhide HBE).cell (p := ⟨gs, i * 7 + t, none⟩) hgs]; exact own_at kstCells 7 (fun _ => rfl) (unhide HO) rfl i y hy t h
      have x0 : wr.cell? ⟨gs, i * 7, none⟩ = some (.int .i64 (y.pl : Int)) := cx 0 (by omega)
      have x1 : wr.cell? ⟨gs, i * 7 + 1, none⟩ = some (.int .i64 (y.no : Int)) := cx 1 (by omega)
      have x2 : wr.cell? ⟨gs, i * 7 + 2, none⟩ = some (.int .i64 (y.x.lo : Int)) := cx 2 (by omega)
      have x3 : wr.cell? ⟨gs, i * 7 + 3, none⟩ = some (.int .i64 (y.x.hi : Int)) := cx 3 (by omega)
      have x4 : wr.cell? ⟨gs, i * 7 + 4, none⟩ = some (.bool y.x.rest) := cx 4 (by omega)
      have x5 : wr.cell? ⟨gs, i * 7 + 5, none⟩ = some (.int .i64 (y.x.mn : Int)) := cx 5 (by omega)
      have x6 : wr.cell? ⟨gs, i * 7 + 6, none⟩ = some (.int .i64 (y.x.mx : Int)) := cx 6 (by omega)
      have HSN := hide (textL_snoc J K D L i y hy)
      have htl := textL_len hJ hK hD (L.take i) (fun z hz => unhide HL z (List.mem_of_mem_take hz))
      have htk : (L.take i).length ≤ 1000 := by rw [List.length_take]; omega
      obtain ⟨tl, htle⟩ : ∃ tl, tl = Hx.textL J K D (L.take i) := ⟨_, rfl⟩
      rw [← htle] at HSN htl ⊢
      obtain ⟨tA, htA⟩ : ∃ tA : ByteArray, tA = ⟨tl.toArray⟩ := ⟨_, rfl⟩
      have hsz : tA.size ≤ 100000 := by rw [htA]; show tl.length ≤ _; omega
      rw [← htA]
      have HTA := hide htA
      clear cx htl htk htle htA hy
      go_upto_region 7 with fail
      have HX := hide (bN #[.int .i64 (y.pl : Int), .int .i64 (y.no : Int), .int .i64 (y.x.lo : Int), .int .i64 (y.x.hi : Int), .bool y.x.rest, .int .i64 (y.x.mn : Int), .int .i64 (y.x.mx : Int)] 39 (w := wr) rfl)
      have HBLK1 := hide (bA (.cells #[.int .i64 (y.pl : Int), .int .i64 (y.no : Int), .int .i64 (y.x.lo : Int), .int .i64 (y.x.hi : Int), .bool y.x.rest, .int .i64 (y.x.mn : Int), .int .i64 (y.x.mx : Int)] 39) (unhide HBLK))
      have HBE1 := hide (belA (.cells #[.int .i64 (y.pl : Int), .int .i64 (y.no : Int), .int .i64 (y.x.lo : Int), .int .i64 (y.x.hi : Int), .bool y.x.rest, .int .i64 (y.x.mn : Int), .int .i64 (y.x.mx : Int)] 39) (unhide HBE))
      obtain ⟨tb, htb⟩ : ∃ tb, tb = wr.heap.size := ⟨_, rfl⟩
      rw [← htb] at HX ⊢
      clear HBLK HBE x0 x1 x2 x3 x4 x5 x6 htb p3
      generalize wr.alloc (.cells #[.int .i64 (y.pl : Int), .int .i64 (y.no : Int), .int .i64 (y.x.lo : Int), .int .i64 (y.x.hi : Int), .bool y.x.rest, .int .i64 (y.x.mn : Int), .int .i64 (y.x.mx : Int)] 39) = wx at HX HBLK1 HBE1 ⊢
      have z0 : wx.cell? ⟨tb, 0, none⟩ = some (.int .i64 (y.pl : Int)) := blk_cell (unhide HX) 0
      have z1 : wx.cell? ⟨tb, 1, none⟩ = some (.int .i64 (y.no : Int)) := blk_cell (unhide HX) 1
      have z2 : wx.cell? ⟨tb, 2, none⟩ = some (.int .i64 (y.x.lo : Int)) := blk_cell (unhide HX) 2
      have z3 : wx.cell? ⟨tb, 3, none⟩ = some (.int .i64 (y.x.hi : Int)) := blk_cell (unhide HX) 3
      have z4 : wx.cell? ⟨tb, 4, none⟩ = some (.bool y.x.rest) := blk_cell (unhide HX) 4
      have z5 : wx.cell? ⟨tb, 5, none⟩ = some (.int .i64 (y.x.mn : Int)) := blk_cell (unhide HX) 5
      have z6 : wx.cell? ⟨tb, 6, none⟩ = some (.int .i64 (y.x.mx : Int)) := blk_cell (unhide HX) 6
      have b1 := (unhide HKS).lo
      have b2 := (unhide HKS).hi
      have b3 := (unhide HKS).mn
      have b4 := (unhide HKS).mx
      have l1 := Hx.itoa_seven (n := y.x.lo) (by omega)
      have l2 := Hx.itoa_seven (n := y.x.hi) (by omega)
      have l3 := Hx.itoa_seven (n := y.x.mn) (by omega)
      have l4 := Hx.itoa_seven (n := y.x.mx) (by omega)
      have lo0 : (0 : Int) ≤ (y.x.lo : Int) := by omega
      have lo1 : (y.x.lo : Int) ≤ 1000000 := by omega
      have hi0 : (0 : Int) ≤ (y.x.hi : Int) := by omega
      have hi1 : (y.x.hi : Int) ≤ 1000000 := by omega
      have mn0 : (0 : Int) ≤ (y.x.mn : Int) := by omega
      have mn1 : (y.x.mn : Int) ≤ 1000000 := by omega
      have mx0 : (0 : Int) ≤ (y.x.mx : Int) := by omega
      have mx1 : (y.x.mx : Int) ≤ 1000000 := by omega
      clear b1 b2 b3 b4
      by_cases hno : y.no = 0
      · have hnoI : ((y.no : Int) == 0) = true := by simp [hno]
        have hpl := (unhide HKS).pl
        have plI : (y.pl : Int) < 4 := by omega
        have pl0 : (0 : Int) ≤ (y.pl : Int) := by omega
        have HCAT : Hid (tA ++ ⟨#[59]⟩ ++ (⟨#[97, 98, 99, 100]⟩ : ByteArray).extract y.pl (y.pl + 1) ++ ⟨#[61]⟩ ++ ⟨(Lib.itoa (y.x.lo : Int)).toArray⟩ ++ ⟨#[45]⟩ ++ ⟨(Lib.itoa (y.x.hi : Int)).toArray⟩ = ⟨(tl ++ Hx.lstB y).toArray⟩) := by
          show _ = _
          rw [unhide HTA, letter4_ext _ hpl]
          apply ByteArray.ext
          simp [Hx.lstB, hno, Hx.openB, Hx.bB]
        have hex : ((⟨#[97, 98, 99, 100]⟩ : ByteArray).extract y.pl (y.pl + 1)).size = 1 := by rw [letter4_ext _ hpl]; rfl
        obtain ⟨ex, hexd⟩ : ∃ ex, ex = (⟨#[97, 98, 99, 100]⟩ : ByteArray).extract y.pl (y.pl + 1) := ⟨_, rfl⟩
        rw [← hexd] at HCAT hex
        have HEX := hide hexd
        have m1 : ¬ 9223372036854775807 < tA.size + 1 := by omega
        clear hno hexd
        go_wp2_with fail
        rw [← unhide HEX]
        have hexl : ex.size ≤ 1 := by omega
        have m2 : ¬ 9223372036854775807 < tA.size + 1 + ex.size + 1 + (Lib.itoa (y.x.lo : Int)).length := by omega
        have m3 : ¬ 9223372036854775807 < tA.size + 1 + ex.size + 1 + (Lib.itoa (y.x.lo : Int)).length + 1 := by omega
        have m4 : ¬ 9223372036854775807 < tA.size + 1 + ex.size + 1 + (Lib.itoa (y.x.lo : Int)).length + 1 + (Lib.itoa (y.x.hi : Int)).length := by omega
        clear hex
        go_quiet ((go_at_call 18; refine Calls.quiet_of_same (kdec_gen _ _ (by assumption) (by assumption))))
        go_wp2_with fail
        go_roundg (L.length - (i + 1))
        case measure => omega
        case rel =>
          refine ⟨i + 1, by omega, rfl, by go_num, ?_, bQ _ (unhide HBLK1), below_drewN (unhide HBE1) _⟩
          rw [unhide HSN, ← unhide HCAT]
      · have hnoI : ((y.no : Int) == 0) = false := by simp [hno]
        cases hrest : y.x.rest with
        | true =>
          rw [hrest] at z4
          have HCAT : Hid (tA ++ ⟨#[126]⟩ ++ ⟨(Lib.itoa (y.x.mn : Int)).toArray⟩ ++ ⟨#[45]⟩ ++ ⟨(Lib.itoa (y.x.mx : Int)).toArray⟩ ++ ⟨#[126]⟩ ++ ⟨(Lib.itoa (y.x.lo : Int)).toArray⟩ ++ ⟨#[45]⟩ ++ ⟨(Lib.itoa (y.x.hi : Int)).toArray⟩ = ⟨(tl ++ Hx.lstB y).toArray⟩) := by
            show _ = _
            rw [unhide HTA]
            apply ByteArray.ext
            simp [Hx.lstB, hno, hrest, Hx.joinR, Hx.bB]
          have m1 : ¬ 9223372036854775807 < tA.size + 1 := by omega
          have m2 : ¬ 9223372036854775807 < tA.size + 1 + (Lib.itoa (y.x.mn : Int)).length := by omega
          have m3 : ¬ 9223372036854775807 < tA.size + 1 + (Lib.itoa (y.x.mn : Int)).length + 1 := by omega
          have m4 : ¬ 9223372036854775807 < tA.size + 1 + (Lib.itoa (y.x.mn : Int)).length + 1 + (Lib.itoa (y.x.mx : Int)).length := by omega
          have m5 : ¬ 9223372036854775807 < tA.size + 1 + (Lib.itoa (y.x.mn : Int)).length + 1 + (Lib.itoa (y.x.mx : Int)).length + 1 := by omega
          have m6 : ¬ 9223372036854775807 < tA.size + 1 + (Lib.itoa (y.x.mn : Int)).length + 1 + (Lib.itoa (y.x.mx : Int)).length + 1 + (Lib.itoa (y.x.lo : Int)).length := by omega
          have m7 : ¬ 9223372036854775807 < tA.size + 1 + (Lib.itoa (y.x.mn : Int)).length + 1 + (Lib.itoa (y.x.mx : Int)).length + 1 + (Lib.itoa (y.x.lo : Int)).length + 1 := by omega
          have m8 : ¬ 9223372036854775807 < tA.size + 1 + (Lib.itoa (y.x.mn : Int)).length + 1 + (Lib.itoa (y.x.mx : Int)).length + 1 + (Lib.itoa (y.x.lo : Int)).length + 1 + (Lib.itoa (y.x.hi : Int)).length := by omega
          clear hno hrest
          go_wp2_with fail
          go_quiet ((go_at_call 18; refine Calls.quiet_of_same (kdec_gen _ _ (by assumption) (by assumption))))
          go_wp2_with fail
          generalize hwy : World.drewN wx _ = wy
          have y2 : wy.cell? ⟨tb, 2, none⟩ = some (.int .i64 (y.x.lo : Int)) := by rw [← hwy]; exact z2
          have y3 : wy.cell? ⟨tb, 3, none⟩ = some (.int .i64 (y.x.hi : Int)) := by rw [← hwy]; exact z3
          have HBLK2 : Hid (wy.heap[w.heap.size]? = some (.cells #[.int .i64 (J : Int), .int .i64 (K : Int), .int .i64 (D : Int), .slice (some ⟨gs, 0, none⟩) L.length cap] 28 (0, 0))) := by rw [← hwy]; exact unhide HBLK1
          have HBE2 : Hid (Below w.heap.size w wy) := by rw [← hwy]; exact below_drewN (unhide HBE1) _
          clear z0 z1 z2 z3 z4 z5 z6 hwy HX HBLK1 HBE1
          go_quiet ((go_at_call 18; refine Calls.quiet_of_same (kdec_gen _ _ (by assumption) (by assumption))))
          go_wp2_with fail
          go_roundg (L.length - (i + 1))
          case measure => omega
          case rel =>
            refine ⟨i + 1, by omega, rfl, by go_num, ?_, bQ _ (unhide HBLK2), below_drewN (unhide HBE2) _⟩
            rw [unhide HSN, ← unhide HCAT]
        | false =>
          rw [hrest] at z4
          have HCAT : Hid (tA ++ ⟨#[44]⟩ ++ ⟨(Lib.itoa (y.x.lo : Int)).toArray⟩ ++ ⟨#[45]⟩ ++ ⟨(Lib.itoa (y.x.hi : Int)).toArray⟩ = ⟨(tl ++ Hx.lstB y).toArray⟩) := by
            show _ = _
            rw [unhide HTA]
            apply ByteArray.ext
            simp [Hx.lstB, hno, hrest, Hx.joinR, Hx.bB]
          have m1 : ¬ 9223372036854775807 < tA.size + 1 := by omega
          have m2 : ¬ 9223372036854775807 < tA.size + 1 + (Lib.itoa (y.x.lo : Int)).length := by omega
          have m3 : ¬ 9223372036854775807 < tA.size + 1 + (Lib.itoa (y.x.lo : Int)).length + 1 := by omega
          have m4 : ¬ 9223372036854775807 < tA.size + 1 + (Lib.itoa (y.x.lo : Int)).length + 1 + (Lib.itoa (y.x.hi : Int)).length := by omega
          clear hno hrest
          go_wp2_with fail
          go_quiet ((go_at_call 18; refine Calls.quiet_of_same (kdec_gen _ _ (by assumption) (by assumption))))
          go_wp2_with fail
          go_roundg (L.length - (i + 1))
          case measure => omega
          case rel =>
            refine ⟨i + 1, by omega, rfl, by go_num, ?_, bQ _ (unhide HBLK1), below_drewN (unhide HBE1) _⟩
            rw [unhide HSN, ← unhide HCAT]
    · have hltI : ¬ (i : Int) < (L.length : Int) := by omega
      go_wp2_with fail
      go_returns
      rw [show L.take i = L from List.take_of_length_le (by omega)]
      exact ⟨rfl, unhide HBE⟩
end Go.Proofs.YtppcnlkhdgmaiaaDoor
namespace Go.Proofs.YtppcnlkhdgmaiaaDoor
open Go.RowKit

/-- Which of n things a raw number speaks of. -/
def Hx.pickN (c : Int) (n : Nat) : Nat := (if c < 0 then (-(c + 1)).toNat else c.toNat) % n
theorem Hx.pickN_lt (c : Int) {n : Nat} (hn : 0 < n) : Hx.pickN c n < n := Nat.mod_lt _ hn

set_option maxHeartbeats 1000000 in
theorem pick_any (c : Int) (n : Nat) (w : World) (h1 : -9223372036854775808 ≤ c) (h2 : c ≤ 9223372036854775807) (hn : 0 < n) (hn2 : n ≤ 9223372036854775807) :
    Calls Tryd.prog 15 #[.int .i64 c, .int .i64 (n : Int)] w fun e w' => e = .returned (.int .i64 (Hx.pickN c n : Int)) ∧ w' = w := by
  go_enter Tryd.func15, Tryd.ntmps15
  have hnz : (n : Int) ≠ 0 := by omega
  by_cases hc : c < 0
  · have e1 : (Hx.pickN c n : Int) = Int.tmod (-(c + 1)) (n : Int) := by
      unfold Hx.pickN
      rw [if_pos hc]
      obtain ⟨m, hm⟩ : ∃ m : Nat, -(c + 1) = (m : Int) := ⟨(-(c + 1)).toNat, by omega⟩
      rw [hm, Int.toNat_natCast]
      rfl
    have HE := hide e1
    clear e1
    go_wp2_with fail
    go_returns
    refine ⟨ret_int ?_, rfl⟩
    rw [unhide HE, Int.neg_tmod]
  · have e1 : (Hx.pickN c n : Int) = Int.tmod c (n : Int) := by
      unfold Hx.pickN
      rw [if_neg hc]
      obtain ⟨m, rfl⟩ : ∃ m : Nat, c = (m : Int) := ⟨c.toNat, by omega⟩
      rw [Int.toNat_natCast]
      rfl
    have HE := hide e1
    clear e1
    go_wp2_with fail
    go_returns
    refine ⟨ret_int ?_, rfl⟩
    rw [unhide HE, Int.tmod_eq_emod_of_nonneg (by omega)]

end Go.Proofs.YtppcnlkhdgmaiaaDoor
namespace Go.Proofs.YtppcnlkhdgmaiaaDoor
open Go.RowKit

namespace Hx
/-- A step of raw numbers. -/
structure Raw where
  lo : Int
  more : Int
  rest : Int
  mn : Int
  wide : Int
def restOf (i : Nat) (x : Raw) : Bool := decide (0 < i) && decide (pickN x.rest 2 = 1)
def stpOf (i : Nat) (x : Raw) : Stp :=
  ⟨1 + pickN x.lo 40, 1 + pickN x.lo 40 + pickN x.more 20, restOf i x, if restOf i x then pickN x.mn 40 else 0, if restOf i x then pickN x.mn 40 + pickN x.wide 80 else 0⟩
/-- What of a plate's raw steps is taken. -/
def plateOf (room : Nat) (q : List Raw) : List Stp := (q.take (min 5 room)).mapIdx stpOf
def shapeF : List (List Raw) → List (List Stp) → List (List Stp)
  | [], acc => acc
  | q :: qs, acc => if acc.length < 4 then (if plateOf (9 - (labs acc).length) q = [] then shapeF qs acc else shapeF qs (acc ++ [plateOf (9 - (labs acc).length) q])) else acc
def oneStp : Stp := ⟨1, 1, false, 0, 0⟩
def shapeP (qs : List (List Raw)) : List (List Stp) := if shapeF qs [] = [] then [[oneStp]] else shapeF qs []
theorem plateOf_len (room : Nat) (q : List Raw) : (plateOf room q).length = min (min 5 room) q.length := by simp [plateOf]
theorem plateOf_at {room : Nat} {q : List Raw} {i : Nat} {x : Raw} (hx : q[i]? = some x) (hi : i < min 5 room) : (plateOf room q)[i]? = some (stpOf i x) := by
  simp [plateOf, List.getElem?_take]
  exact ⟨x, ⟨by omega, hx⟩, rfl⟩
theorem stpOf_ok (i : Nat) (x : Raw) : 1 ≤ (stpOf i x).lo ∧ (stpOf i x).lo ≤ 40 ∧ (stpOf i x).lo ≤ (stpOf i x).hi ∧ (stpOf i x).hi ≤ 59 ∧ (stpOf i x).mn ≤ (stpOf i x).mx ∧ (stpOf i x).mn ≤ 39 ∧ (stpOf i x).mx ≤ 118 ∧ ((stpOf i x).rest = false → (stpOf i x).mn = 0 ∧ (stpOf i x).mx = 0) := by
  have a := pickN_lt x.lo (n := 40) (by omega)
  have b := pickN_lt x.more (n := 20) (by omega)
  have c := pickN_lt x.mn (n := 40) (by omega)
  have d := pickN_lt x.wide (n := 80) (by omega)
  unfold stpOf
  simp only
  cases restOf i x
  · simp; omega
  · simp; omega
/-- What is known of the plan of a shape. -/
structure GoodS (ps : List (List Stp)) : Prop where
  pos : ps ≠ []
  four : ps.length ≤ 4
  five : ∀ q ∈ ps, q.length ≤ 5
  nine : (labs ps).length ≤ 9
  head : ∀ q ∈ ps, ∃ x r, q = x :: r ∧ x.rest = false
  stp : ∀ q ∈ ps, ∀ x ∈ q, 1 ≤ x.lo ∧ x.lo ≤ 40 ∧ x.lo ≤ x.hi ∧ x.hi ≤ 59 ∧ x.mn ≤ x.mx ∧ x.mn ≤ 39 ∧ x.mx ≤ 118 ∧ (x.rest = false → x.mn = 0 ∧ x.mx = 0)
structure GoodA (ps : List (List Stp)) : Prop where
  four : ps.length ≤ 4
  five : ∀ q ∈ ps, q.length ≤ 5
  nine : (labs ps).length ≤ 9
  head : ∀ q ∈ ps, ∃ x r, q = x :: r ∧ x.rest = false
  stp : ∀ q ∈ ps, ∀ x ∈ q, 1 ≤ x.lo ∧ x.lo ≤ 40 ∧ x.lo ≤ x.hi ∧ x.hi ≤ 59 ∧ x.mn ≤ x.mx ∧ x.mn ≤ 39 ∧ x.mx ≤ 118 ∧ (x.rest = false → x.mn = 0 ∧ x.mx = 0)
theorem plateOf_mem {room : Nat} {q : List Raw} {x : Stp} (h : x ∈ plateOf room q) : ∃ i y, x = stpOf i y := by
  obtain ⟨i, hi⟩ := List.getElem?_of_mem h
  unfold plateOf at hi
  rw [List.getElem?_mapIdx] at hi
  cases hy : (q.take (min 5 room))[i]? with
  | none => rw [hy] at hi; cases hi
  | some y => rw [hy] at hi; simp at hi; exact ⟨i, y, hi.symm⟩
theorem GoodA.snoc {acc : List (List Stp)} (h : GoodA acc) (h4 : acc.length < 4) (q : List Raw) (hne : plateOf (9 - (labs acc).length) q ≠ []) : GoodA (acc ++ [plateOf (9 - (labs acc).length) q]) := by
  have hl := plateOf_len (9 - (labs acc).length) q
  refine ⟨by simp; omega, ?_, ?_, ?_, ?_⟩
  · intro p hp
    rcases List.mem_append.1 hp with hp | hp
    · exact h.five p hp
    · rw [List.mem_singleton.1 hp, hl]; omega
  · rw [labs_snoc, List.length_append, show (lab acc.length (plateOf (9 - (labs acc).length) q)).length = (plateOf (9 - (labs acc).length) q).length from by simp [lab], hl]
    have := h.nine
    omega
  · intro p hp
    rcases List.mem_append.1 hp with hp | hp
    · exact h.head p hp
    · rw [List.mem_singleton.1 hp]
      cases hc : plateOf (9 - (labs acc).length) q with
      | nil => exact absurd hc hne
      | cons x r =>
        refine ⟨x, r, rfl, ?_⟩
        have h0 : (plateOf (9 - (labs acc).length) q)[0]? = some x := by rw [hc]; rfl
        cases q with
        | nil => rw [hc] at hl; simp at hl
        | cons y q =>
          have := plateOf_at (room := 9 - (labs acc).length) (q := y :: q) (i := 0) (x := y) rfl (by
            rw [hc] at hl
            simp only [List.length_cons] at hl
            omega)
          rw [this] at h0
          cases h0
          rfl
  · intro p hp x hx
    rcases List.mem_append.1 hp with hp | hp
    · exact h.stp p hp x hx
    · rw [List.mem_singleton.1 hp] at hx
      obtain ⟨i, y, rfl⟩ := plateOf_mem hx
      exact stpOf_ok i y
theorem shapeF_good : ∀ (qs : List (List Raw)) (acc : List (List Stp)), GoodA acc → GoodA (shapeF qs acc)
  | [], acc, h => h
  | q :: qs, acc, h => by
    rw [shapeF]
    split
    · rename_i h4
      split
      · exact shapeF_good qs acc h
      · rename_i hne
        exact shapeF_good qs _ (h.snoc h4 q hne)
    · exact h
theorem GoodA.nil : GoodA [] := ⟨by simp, fun q h => (by cases h), by simp [labs_nil], fun q h => (by cases h), fun q h => (by cases h)⟩
theorem shapeP_good (qs : List (List Raw)) : GoodS (shapeP qs) := by
  unfold shapeP
  split
  · refine ⟨by simp, by simp, ?_, by decide, ?_, ?_⟩
    · intro q hq; rw [List.mem_singleton.1 hq]; simp
    · intro q hq; rw [List.mem_singleton.1 hq]; exact ⟨oneStp, [], rfl, rfl⟩
    · intro q hq x hx
      rw [List.mem_singleton.1 hq] at hx
      rw [List.mem_singleton.1 hx]
      simp [oneStp]
  · rename_i hne
    have h := shapeF_good qs [] GoodA.nil
    exact ⟨hne, h.four, h.five, h.nine, h.head, h.stp⟩
end Hx

/-- A raw step: five cells. -/
def rawCells (x : Hx.Raw) : List Value := [.int .i64 x.lo, .int .i64 x.more, .int .i64 x.rest, .int .i64 x.mn, .int .i64 x.wide]
def I64 (z : Int) : Prop := -9223372036854775808 ≤ z ∧ z ≤ 9223372036854775807
structure RawOk (x : Hx.Raw) : Prop where
  lo : I64 x.lo
  more : I64 x.more
  rest : I64 x.rest
  mn : I64 x.mn
  wide : I64 x.wide
/-- A row of raw steps, as it lies; rows of such rows. -/
def RowR (w : World) (v : Value) (q : List Hx.Raw) : Prop :=
  ∃ ao cap, v = .slice ao q.length cap ∧ q.length ≤ maxLen ∧ ∀ (i : Nat) (x : Hx.Raw), q[i]? = some x → RawOk x ∧ ∃ b o, ao = some ⟨b, o, none⟩ ∧ ∀ t, t < 5 → w.cell? ⟨b, o + (i * 5 + t), none⟩ = (rawCells x)[t]?
def RowsR (w : World) (v : Value) (qs : List (List Hx.Raw)) : Prop :=
  ∃ ao cap, v = .slice ao qs.length cap ∧ qs.length ≤ maxLen ∧ ∀ (r : Nat) (q : List Hx.Raw), qs[r]? = some q → ∃ b o u, ao = some ⟨b, o, none⟩ ∧ w.cell? ⟨b, o + r, none⟩ = some u ∧ RowR w u q
theorem cell_below {w w' : World} {B : Nat} (hb : Below B w w') (hB : w.heap.size ≤ B) {p : Addr} {v : Value} (h : w.cell? p = some v) : w'.cell? p = some v := by
  rw [hb.cell (Nat.lt_of_lt_of_le (World.block_lt_of_cell? w p h) hB)]; exact h
theorem RowR.below {w w' : World} {B : Nat} {v : Value} {q : List Hx.Raw} (h : RowR w v q) (hb : Below B w w') (hB : w.heap.size ≤ B) : RowR w' v q := by
  obtain ⟨ao, cap, e, hm, hx⟩ := h
  refine ⟨ao, cap, e, hm, fun i x hi => ?_⟩
  obtain ⟨h1, b, o, h2, h3⟩ := hx i x hi
  refine ⟨h1, b, o, h2, fun t ht => ?_⟩
  have h4 := h3 t ht
  have : ∃ u, (rawCells x)[t]? = some u := ⟨_, List.getElem?_eq_getElem (by show t < 5; exact ht)⟩
  obtain ⟨u, hu⟩ := this
  rw [hu] at h4 ⊢
  exact cell_below hb hB h4
theorem RowsR.below {w w' : World} {B : Nat} {v : Value} {qs : List (List Hx.Raw)} (h : RowsR w v qs) (hb : Below B w w') (hB : w.heap.size ≤ B) : RowsR w' v qs := by
  obtain ⟨ao, cap, e, hm, hx⟩ := h
  refine ⟨ao, cap, e, hm, fun r q hr => ?_⟩
  obtain ⟨b, o, u, h1, h2, h3⟩ := hx r q hr
  exact ⟨b, o, u, h1, cell_below hb hB h2, h3.below hb hB⟩

theorem pick_gen (c nI : Int) (w : World) (h1 : -9223372036854775808 ≤ c) (h2 : c ≤ 9223372036854775807) (hn : 0 < nI) (hn2 : nI ≤ 9223372036854775807) :
    Calls Tryd.prog 15 #[.int .i64 c, .int .i64 nI] w fun e w' => e = .returned (.int .i64 (Hx.pickN c nI.toNat : Int)) ∧ w' = w := by
  have e : nI = (nI.toNat : Int) := by omega
  rw [show #[Value.int .i64 c, Value.int .i64 nI] = #[Value.int .i64 c, Value.int .i64 (nI.toNat : Int)] by rw [← e]]
  exact pick_any c nI.toNat w h1 h2 (by omega) (by omega)
end Go.Proofs.YtppcnlkhdgmaiaaDoor
namespace Go.Proofs.YtppcnlkhdgmaiaaDoor
open Go.RowKit

def trnsCells (l : List Hx.Trn) : List Value := l.flatMap trnCells
theorem trnsCells_snoc (l : List Hx.Trn) (t : Hx.Trn) : trnsCells (l ++ [t]) = trnsCells l ++ trnCells t := by simp [trnsCells]
theorem trnsCells_at (l : List Hx.Trn) (j : Nat) (t : Hx.Trn) (h : l[j]? = some t) (i : Nat) (hi : i < 8) : (trnsCells l)[j * 8 + i]? = (trnCells t)[i]? := by
  induction l generalizing j with
  | nil => simp at h
  | cons z r ih =>
    have e : trnsCells (z :: r) = trnCells z ++ trnsCells r := rfl
    rw [e]
    have hl : (trnCells z).length = 8 := rfl
    cases j with
    | zero =>
      simp at h
      subst h
      rw [Nat.zero_mul, Nat.zero_add, List.getElem?_append_left (by omega)]
    | succ j =>
      rw [List.getElem?_append_right (by omega), hl, show (j + 1) * 8 + i - 8 = j * 8 + i by omega]
      exact ih j (by simpa using h)
theorem trnCells_one (t : Hx.Trn) : ∀ u ∈ trnCells t, u.oneCell' = true := by
  intro u hu
  simp [trnCells] at hu
  rcases hu with rfl | rfl | rfl | rfl | rfl | rfl | rfl | rfl <;> rfl
/-- A slice of turns, as it lies. -/
abbrev Trns (w : World) (base : Nat) (v : Value) (l : List Hx.Trn) : Prop := w.ownsRow base 83 8 v l.length (trnsCells l)
theorem Tryd.info83 : (Tryd.prog.info? 83).map (fun i => (i.zero, i.size, i.bytes)) = some (some (.agg #[.int .i64 0, .int .i64 0, .bool false, .int .i64 0, .int .i64 0, .int .i64 0, .int .i64 0, .bool false]), 8, 64) := by kernel_rfl
/-- A slice of numbers, as it lies. -/
def natCells (n : Nat) (f : Nat → Nat) : List Value := (List.range n).map fun p => .int .i64 (f p : Int)
theorem natCells_at {n : Nat} {f : Nat → Nat} {p : Nat} (h : p < n) : (natCells n f)[p]? = some (.int .i64 (f p : Int)) := by simp [natCells, h]

theorem nextUp {K : Nat} {ps : List (List Hx.Stp)} {r : Int} {nx : Nat → Nat} (k : Nat) : (List.range (k + 1)).filterMap (Hx.nextAt K ps r nx) = (List.range k).filterMap (Hx.nextAt K ps r nx) ++ (Hx.nextAt K ps r nx k).toList := by
  rw [List.range_succ, List.filterMap_append]
  cases h : Hx.nextAt K ps r nx k <;> simp [h]
theorem nextUp_len {K : Nat} {ps : List (List Hx.Stp)} {r : Int} {nx : Nat → Nat} (k : Nat) : ((List.range k).filterMap (Hx.nextAt K ps r nx)).length ≤ k := by
  have := List.length_filterMap_le (Hx.nextAt K ps r nx) (List.range k)
  simpa using this

set_option maxRecDepth 100000 in
set_option maxHeartbeats 4000000 in
theorem next_any (J K D : Nat) (v dv : Value) (base : Nat) (ps : List (List Hx.Stp)) (r : Int) (nx : Nat → Nat) (w : World) (hps : Plts w base v ps) (hn : 0 < ps.length) (hl : ps.length ≤ 121) (hf : Hx.Fine ps)
    (hd : w.ownsRow 0 3 1 dv ps.length (natCells ps.length nx)) (hle : ∀ p, p < ps.length → nx p ≤ Hx.lenP ps p) (hr1 : -1000 ≤ r) (hr2 : r ≤ 1000) :
    Calls Tryd.prog 69 #[.agg #[.int .i64 (J : Int), .int .i64 (K : Int), .int .i64 (D : Int), v], dv, .int .i64 r] w fun e w' => ∃ nv, e = .returned nv ∧ Trns w' w.heap.size nv (Hx.nxtF K ps r nx) ∧ Below w.heap.size w w' := by
  have HPS := hide hps
  have HF := hide hf
  have HLE := hide hle
  have HD := hide hd
  obtain ⟨g, cap, rfl, hg⟩ : ∃ g cap, v = .slice (some ⟨g, 0, none⟩) ps.length cap ∧ g < w.heap.size := by
    obtain ⟨vs, hvs, hpp⟩ := hps
    obtain ⟨g, cap, e, _, hg⟩ := own_pos hvs hn
    exact ⟨g, cap, e, hg⟩
  obtain ⟨gd, capd, rfl, _, hgd⟩ := own_pos hd hn
  obtain ⟨i0, hi, hz0, hz1, hz2⟩ := info_parts Tryd.info83
  have HI := hide hi
  have HZ0 := hide hz0
  have HZ1 := hide hz1
  have HZ2 := hide hz2
  clear hps hf hle hd hi hz0 hz1 hz2
  go_enter Tryd.func69, Tryd.ntmps69
  go_wp2_with fail
  go_loopg [7, 14] ps.length (fun gk out i wr => ∃ (k : Nat) (l : List Hx.Trn), k ≤ ps.length ∧ gk = ps.length - k ∧ i = .int .i64 (k : Int) ∧ l = (List.range k).filterMap (Hx.nextAt K ps r nx) ∧ Trns wr w.heap.size out l ∧ Below w.heap.size w wr ∧ wr.heap[w.heap.size]? = some (.cells #[.int .i64 (J : Int), .int .i64 (K : Int), .int .i64 (D : Int), .slice (some ⟨g, 0, none⟩) ps.length cap] 75 (0, 0)))
  case atStart => exact ⟨0, [], Nat.zero_le _, rfl, rfl, rfl, World.ownsRow_nil _ _ _ _, belA _ (Below.refl _ _), blk_new _ _ _⟩
  case round =>
    obtain ⟨k, l, hk, rfl, rfl, hls, hrow, hbe, hbox⟩ := hrel
    obtain ⟨ao, capo, rfl⟩ := own_form hrow
    have hll : l.length ≤ k := by rw [hls]; exact nextUp_len k
    have HLS := hide hls
    have HROW := hide hrow
    have HBE := hide hbe
    have HBOX := hide hbox
    clear hls hrow hbe hbox
    by_cases hlt : k < ps.length
    · obtain ⟨p, hp⟩ : ∃ p, ps[k]? = some p := ⟨ps[k], List.getElem?_eq_getElem hlt⟩
      obtain ⟨x0, r0, ep, hx0⟩ := unhide HF k p hp
      have hp0 : 0 < p.length := by rw [ep]; simp
      obtain ⟨g', cap', g2, cap2, e', _, _, hg2, _, hc, hq121, _⟩ := (unhide HPS).plate hp hp0
      cases e'
      have hnk : nx k ≤ p.length := by have := unhide HLE k hlt; rwa [Hx.lenP_eq hp] at this
      have cP : wr.cell? ⟨g, k, none⟩ = some (.slice (some ⟨g2, 0, none⟩) p.length cap2) := by
        rw [(unhide HBE).cell (p := ⟨g, k, none⟩) hg]; exact hc
      have cD' : wr.cell? ⟨gd, k, none⟩ = some (.int .i64 (nx k : Int)) := by
        rw [(unhide HBE).cell (p := ⟨gd, k, none⟩) hgd, (unhide HD).cellAt k (by omega)]; exact natCells_at hlt
      have HP := hide hp
      clear hp hc ep hx0
      by_cases hfull : nx k = p.length
      · have hnone : Hid (Hx.nextAt K ps r nx k = none) := by
          show _ = _
          have : Hx.turnAt ps k (nx k) = none := by simp [Hx.turnAt, unhide HP, List.getElem?_eq_none (show p.length ≤ nx k by omega)]
          simp [Hx.nextAt, this]
        have hfe : ((nx k : Int) == (p.length : Int)) = true := by simp; omega
        go_wp2_with fail
        go_roundg (ps.length - (k + 1))
        case measure => omega
        case rel => exact ⟨k + 1, l, by omega, rfl, by go_num, by rw [nextUp, unhide hnone, unhide HLS]; simp, unhide HROW, unhide HBE, unhide HBOX⟩
      · have hfe : ((nx k : Int) == (p.length : Int)) = false := by simp; omega
        obtain ⟨t, ht⟩ : ∃ t, Hx.turnAt ps k (nx k) = some t := ⟨⟨p[nx k], k, nx k, Hx.begB p (nx k)⟩, by simp [Hx.turnAt, unhide HP, List.getElem?_eq_getElem (show nx k < p.length by omega)]⟩
        have HTT := hide ht
        have j0 : wr.cell? ⟨w.heap.size, 0, none⟩ = some (.int .i64 (J : Int)) := blk_cell (unhide HBOX) 0
        have j1 : wr.cell? ⟨w.heap.size, 1, none⟩ = some (.int .i64 (K : Int)) := blk_cell (unhide HBOX) 1
        have j2 : wr.cell? ⟨w.heap.size, 2, none⟩ = some (.int .i64 (D : Int)) := blk_cell (unhide HBOX) 2
        have j3 : wr.cell? ⟨w.heap.size, 3, none⟩ = some (.slice (some ⟨g, 0, none⟩) ps.length cap) := blk_cell (unhide HBOX) 3
        have hk0 : (0 : Int) ≤ (k : Int) := by omega
        have hkI : (k : Int) < (ps.length : Int) := by omega
        have HPSr : Hid (Plts wr base (.slice (some ⟨g, 0, none⟩) ps.length cap) ps) := (unhide HPS).below (unhide HBE)
        clear ht
        go_upto_region 6 with fail
        go_cut [10] (fun s10 wc => ∃ tb, s10 = .pointer (some ⟨tb, 0, none⟩) ∧ wc.heap[tb]? = some (.cells #[.int .i64 (t.x.lo : Int), .int .i64 (t.x.hi : Int), .bool t.x.rest, .int .i64 (t.x.mn : Int), .int .i64 (t.x.mx : Int), .int .i64 (t.pl : Int), .int .i64 (t.no : Int), .bool t.beg] 83 (0, 0)) ∧ Below wr.heap.size wr wc)
        case first =>
          go_region_held3 (fun w' => w'.cell? ⟨w.heap.size, 0, none⟩ = some (.int .i64 (J : Int)) ∧ w'.cell? ⟨w.heap.size, 1, none⟩ = some (.int .i64 (K : Int)) ∧ w'.cell? ⟨w.heap.size, 2, none⟩ = some (.int .i64 (D : Int)) ∧ w'.cell? ⟨w.heap.size, 3, none⟩ = some (.slice (some ⟨g, 0, none⟩) ps.length cap) ∧ w'.cell? ⟨gd, k, none⟩ = some (.int .i64 (nx k : Int))) (refine ⟨?_, ?_, ?_, ?_, ?_⟩ <;> (repeat (first | assumption | apply cD | apply cA)))
            (first | (go_at_call 49; refine (turn_exact J K D _ base ps _ k (nx k) t ?_ (unhide HTT)).mono ?_; (refine (unhide HPSr).below ?_; (repeat (first | exact Below.refl _ _ | apply belD | apply belA))); rintro e w2 ⟨rfl, rfl⟩))
          all_goals
            go_wp2_with fail
            go_meet
            case rel =>
              refine ⟨_, rfl, ?_, ?_⟩
              · repeat (first | (refine bN _ _ ?_; simp; done) | apply bD | apply bA)
              · repeat (first | exact Below.refl _ _ | apply belD | apply belA)
        case rest =>
          obtain ⟨tb, rfl, htb, hb2⟩ := hcut
          have HTB := hide htb
          have HBE2 := hide ((unhide HBE).trans (hb2.mono (unhide HBE).size))
          have HROW2 := hide (own_below (unhide HROW) hb2)
          have HBOX2 := hide ((hb2.block _ (lt_of_block (unhide HBOX))).trans (unhide HBOX))
          clear htb hb2 cP cD' j0 j1 j2 j3 HBOX HROW HPSr
          have t0 : wc.cell? ⟨tb, 0, none⟩ = some (.int .i64 (t.x.lo : Int)) := blk_cell (unhide HTB) 0
          have t1 : wc.cell? ⟨tb, 1, none⟩ = some (.int .i64 (t.x.hi : Int)) := blk_cell (unhide HTB) 1
          have t2 : wc.cell? ⟨tb, 2, none⟩ = some (.bool t.x.rest) := blk_cell (unhide HTB) 2
          have t3 : wc.cell? ⟨tb, 3, none⟩ = some (.int .i64 (t.x.mn : Int)) := blk_cell (unhide HTB) 3
          have t4 : wc.cell? ⟨tb, 4, none⟩ = some (.int .i64 (t.x.mx : Int)) := blk_cell (unhide HTB) 4
          have t5 : wc.cell? ⟨tb, 5, none⟩ = some (.int .i64 (t.pl : Int)) := blk_cell (unhide HTB) 5
          have t6 : wc.cell? ⟨tb, 6, none⟩ = some (.int .i64 (t.no : Int)) := blk_cell (unhide HTB) 6
          have t7 : wc.cell? ⟨tb, 7, none⟩ = some (.bool t.beg) := blk_cell (unhide HTB) 7
          have j1 : wc.cell? ⟨w.heap.size, 1, none⟩ = some (.int .i64 (K : Int)) := blk_cell (unhide HBOX2) 1
          obtain ⟨mr, hmr⟩ : ∃ mr, mr = Hx.moreR t := ⟨_, rfl⟩
          have hmr1 : -1 ≤ mr ∧ mr ≤ 1 := by rw [hmr]; unfold Hx.moreR; constructor <;> (split <;> split <;> omega)
          have HMR := hide hmr
          clear hmr
          go_upto_region 7 with fail
          go_cut [39] (fun s39 wd => s39 = .bool (decide (r + mr ≤ (K : Int))) ∧ Below wc.heap.size wc wd)
          case first =>
            go_region_held3 (fun w' => w'.cell? ⟨w.heap.size, 1, none⟩ = some (.int .i64 (K : Int)) ∧ w'.cell? ⟨tb, 0, none⟩ = some (.int .i64 (t.x.lo : Int)) ∧ w'.cell? ⟨tb, 1, none⟩ = some (.int .i64 (t.x.hi : Int)) ∧ w'.cell? ⟨tb, 2, none⟩ = some (.bool t.x.rest) ∧ w'.cell? ⟨tb, 3, none⟩ = some (.int .i64 (t.x.mn : Int)) ∧ w'.cell? ⟨tb, 4, none⟩ = some (.int .i64 (t.x.mx : Int)) ∧ w'.cell? ⟨tb, 5, none⟩ = some (.int .i64 (t.pl : Int)) ∧ w'.cell? ⟨tb, 6, none⟩ = some (.int .i64 (t.no : Int)) ∧ w'.cell? ⟨tb, 7, none⟩ = some (.bool t.beg)) (refine ⟨?_, ?_, ?_, ?_, ?_, ?_, ?_, ?_, ?_⟩ <;> (repeat (first | assumption | apply cD | apply cA)))
              (first | (go_at_call 71; refine (more_any t _).mono ?_; rw [← unhide HMR]; rintro e w2 ⟨rfl, rfl⟩))
            all_goals
              go_wp2_with fail
              go_meet
              case rel =>
                refine ⟨by rw [IntWalk.i64_in _ ⟨by omega, by omega⟩], ?_⟩
                repeat (first | exact Below.refl _ _ | apply belD | apply belA)
          case rest =>
            obtain ⟨rfl, hb3⟩ := hcut
            have HTB3 := hide ((hb3.block _ (lt_of_block (unhide HTB))).trans (unhide HTB))
            have HBE3 := hide ((unhide HBE2).trans (hb3.mono (unhide HBE2).size))
            have HROW3 := hide (own_below (unhide HROW2) hb3)
            have HBOX3 := hide ((hb3.block _ (lt_of_block (unhide HBOX2))).trans (unhide HBOX2))
            clear hb3 t0 t1 t2 t3 t4 t5 t6 t7 j1 HTB HBE2 HROW2 HBOX2
            cases hd : decide (r + mr ≤ (K : Int))
            · have hnone : Hid (Hx.nextAt K ps r nx k = none) := by
                show _ = _
                unfold Hx.nextAt
                rw [unhide HTT]
                simp only
                rw [if_neg (by rw [← unhide HMR]; simpa using hd)]
              clear hd
              go_wp2_with fail
              go_roundg (ps.length - (k + 1))
              case measure => omega
              case rel => exact ⟨k + 1, l, by omega, rfl, by go_num, by rw [nextUp, unhide hnone, unhide HLS]; simp, unhide HROW3, unhide HBE3, unhide HBOX3⟩
            · have hsome : Hid (Hx.nextAt K ps r nx k = some t) := by
                show _ = _
                unfold Hx.nextAt
                rw [unhide HTT]
                simp only
                rw [if_pos (by rw [← unhide HMR]; simpa using hd)]
              have t0 : wc.cell? ⟨tb, 0, none⟩ = some (.int .i64 (t.x.lo : Int)) := blk_cell (unhide HTB3) 0
              have t1 : wc.cell? ⟨tb, 1, none⟩ = some (.int .i64 (t.x.hi : Int)) := blk_cell (unhide HTB3) 1
              have t2 : wc.cell? ⟨tb, 2, none⟩ = some (.bool t.x.rest) := blk_cell (unhide HTB3) 2
              have t3 : wc.cell? ⟨tb, 3, none⟩ = some (.int .i64 (t.x.mn : Int)) := blk_cell (unhide HTB3) 3
              have t4 : wc.cell? ⟨tb, 4, none⟩ = some (.int .i64 (t.x.mx : Int)) := blk_cell (unhide HTB3) 4
              have t5 : wc.cell? ⟨tb, 5, none⟩ = some (.int .i64 (t.pl : Int)) := blk_cell (unhide HTB3) 5
              have t6 : wc.cell? ⟨tb, 6, none⟩ = some (.int .i64 (t.no : Int)) := blk_cell (unhide HTB3) 6
              have t7 : wc.cell? ⟨tb, 7, none⟩ = some (.bool t.beg) := blk_cell (unhide HTB3) 7
              clear hd
              go_wp2_with (at_builtin; refine wpList_append_own _ rfl _ _ 87 rfl w.heap.size 83 i0 (.agg #[.int .i64 0, .int .i64 0, .bool false, .int .i64 0, .int .i64 0, .int .i64 0, .int .i64 0, .bool false]) 8 64 Tryd.underlying87 (unhide HI) (unhide HZ0) (unhide HZ1) (unhide HZ2) rfl (by decide) _ _ _ rfl ((unhide HROW3).alloc _) ⟨wc.heap.size, 0, none⟩ 1 1 (trnCells t) rfl rfl ?d1 ?d2 ?d3 ?d4 ?d5 ?_)
              case d1 => exact news_new wc (trnCells t) 83
              case d2 => exact trnCells_one _
              case d3 => unfold maxLen; omega
              case d4 => omega
              case d5 => have := (unhide HBE3).size; simp; omega
              · intro v' w3 hown' hgrow _
                have HOWN3 := hide hown'
                have HGROW := hide hgrow
                clear hown' hgrow
                go_wp2_with fail
                go_roundg (ps.length - (k + 1))
                case measure => omega
                case rel =>
                  refine ⟨k + 1, l ++ [t], by omega, rfl, by go_num, by rw [nextUp, unhide hsome, unhide HLS]; simp, ?_, (belA _ (unhide HBE3)).grown (unhide HGROW) (by have := (unhide HBE3).size; simp; omega) (fun k e => ((unhide HROW3).lt k e).1), ?_⟩
                  · show World.ownsRow _ _ _ _ _ _ _
                    rw [trnsCells_snoc, List.length_append]; exact unhide HOWN3
                  · exact blk_kept (bA _ (unhide HBOX3)) (unhide HGROW) (fun e => own_not_box (unhide HROW3) (unhide HBOX3) (by decide) e.symm)
    · have hke : k = ps.length := by omega
      have hfin : Hid (Hx.nxtF K ps r nx = l) := by show _ = _; rw [Hx.nxtF, unhide HLS, hke]
      clear hke
      have hkI : decide ((k : Int) < (ps.length : Int)) = false := by simp; omega
      go_wp2_with fail
      go_returns
      exact ⟨_, rfl, by rw [unhide hfin]; exact unhide HROW, unhide HBE⟩

end Go.Proofs.YtppcnlkhdgmaiaaDoor
