/- The plain mathematics of texts that are read back: what stands in a text from a place on; a numeral, a sign, a name. No program is named here. The plain mathematics of what the machine may never do: over a right table its steps begin and are over as they should. No program is named here. The plain mathematics of what Run tells, read back: the events; and what P8 says of them. No program is named here. What events reads of a text: the events that Run tells. -/
import Derived.Test.YtppcnlkhdgmaiaaDoorCScA
import Derived.Lib.ItoaNum
import Derived.Test.YtppcnlkhdgmaiaaDoorCRmF
import Derived.Test.YtppcnlkhdgmaiaaDoorCScB
import Derived.Test.YtppcnlkhdgmaiaaDoorCScN
import Derived.Test.YtppcnlkhdgmaiaaDoorCPg
import Derived.Test.YtppcnlkhdgmaiaaDoorCPlU
namespace Go.Proofs.YtppcnlkhdgmaiaaDoor
namespace Hx

/-- What stands in a text from a place on. -/
def Tl (s : ByteArray) (p : Nat) (l : List UInt8) : Prop := s.data.toList.drop p = l
theorem Tl.start (l : List UInt8) : Tl ⟨l.toArray⟩ 0 l := by simp [Tl]
theorem byteAt_list (s : ByteArray) (i : Nat) : byteAt s i = match s.data.toList[i]? with | some b => b.toNat | none => 256 := by
  unfold byteAt
  by_cases h : i < s.size
  · rw [dif_pos h, Array.getElem?_toList, Array.getElem?_eq_getElem h]; rfl
  · rw [dif_neg h, Array.getElem?_toList, Array.getElem?_eq_none (by show s.size ≤ i; omega)]
theorem Tl.get {s : ByteArray} {p : Nat} {l : List UInt8} (h : Tl s p l) : s.data.toList[p]? = l[0]? := by
  have h2 : l[0]? = (s.data.toList.drop p)[0]? := by rw [h]
  rw [h2, List.getElem?_drop, Nat.add_zero]
theorem Tl.byte {s : ByteArray} {p : Nat} {b : UInt8} {r : List UInt8} (h : Tl s p (b :: r)) : byteAt s p = b.toNat := by
  rw [byteAt_list, h.get]; rfl
theorem Tl.none {s : ByteArray} {p : Nat} (h : Tl s p []) : byteAt s p = 256 := by
  rw [byteAt_list, h.get]; rfl
theorem Tl.skip {s : ByteArray} {p : Nat} {a r : List UInt8} (h : Tl s p (a ++ r)) : Tl s (p + a.length) r := by
  unfold Tl at h ⊢
  rw [← List.drop_drop, h, List.drop_left]
theorem Tl.next {s : ByteArray} {p : Nat} {b : UInt8} {r : List UInt8} (h : Tl s p (b :: r)) : Tl s (p + 1) r := Tl.skip (a := [b]) h
theorem Tl.lt {s : ByteArray} {p : Nat} {b : UInt8} {r : List UInt8} (h : Tl s p (b :: r)) : p < s.size :=
  byteAt_in (by rw [h.byte]; exact b.toNat_lt)
theorem Tl.ge {s : ByteArray} {p : Nat} (h : Tl s p []) : s.size ≤ p := by
  rcases Nat.lt_or_ge p s.size with g | g
  · have := h.none
    rw [byteAt_lt g] at this
    have := (s[p]'g).toNat_lt
    omega
  · exact g
theorem Tl.size {s : ByteArray} {p : Nat} {l : List UInt8} (h : Tl s p l) (hp : p ≤ s.size) : p + l.length = s.size := by
  have : (s.data.toList.drop p).length = l.length := by rw [h]
  rw [List.length_drop, Array.length_toList] at this
  have : s.size - p = l.length := this
  omega

/-- No digit stands first. -/
def noDig (r : List UInt8) : Prop := ∀ b, r[0]? = some b → ¬ (48 ≤ b.toNat ∧ b.toNat ≤ 57)
theorem noDig_nil : noDig [] := fun b h => by simp at h
theorem noDig_cons {b : UInt8} {r : List UInt8} (h : ¬ (48 ≤ b.toNat ∧ b.toNat ≤ 57)) : noDig (b :: r) := fun c hc => by
  simp at hc; subst hc; exact h
theorem noDig_app {a r : List UInt8} (h1 : noDig a) (h2 : noDig r) : noDig (a ++ r) := by
  cases a with
  | nil => exact h2
  | cons b a => exact h1
theorem Tl.nodig {s : ByteArray} {p : Nat} {r : List UInt8} (h : Tl s p r) (hr : noDig r) : ¬ (48 ≤ byteAt s p ∧ byteAt s p ≤ 57) := by
  cases r with
  | nil => rw [h.none]; omega
  | cons b r => rw [h.byte]; exact hr b rfl
theorem ofNat_toNat {n : Nat} (h : n < 256) : (UInt8.ofNat n).toNat = n := by
  show n % 256 = n
  exact Nat.mod_eq_of_lt h

/-- The digits of a numeral are read. -/
theorem digF_dec {s : ByteArray} {r : List UInt8} : ∀ (u k p v : Nat), Tl s p (Lib.decDigits u ++ r) →
    digF s (k + Lib.nDigits u) p v = digF s k (p + Lib.nDigits u) (v * 10 ^ Lib.nDigits u + u) := by
  intro u
  induction u using Nat.strongRecOn generalizing r with
  | _ u ih =>
    intro k p v h
    by_cases hu : u < 10
    · rw [Lib.decDigits, dif_pos hu] at h
      rw [Lib.nDigits_small hu]
      have hb := h.byte
      rw [ofNat_toNat (by omega)] at hb
      rw [digF_step ⟨by omega, by omega⟩, hb]
      congr 1
      omega
    · rw [Lib.decDigits, dif_neg hu, List.append_assoc] at h
      rw [Lib.nDigits_big hu]
      have h1 := ih (u / 10) (by omega) (k + 1) p v h
      rw [show k + (Lib.nDigits (u / 10) + 1) = k + 1 + Lib.nDigits (u / 10) by omega, h1]
      have h2 := h.skip
      rw [Lib.decDigits_length] at h2
      have hb := h2.byte
      rw [ofNat_toNat (by omega)] at hb
      rw [digF_step ⟨by omega, by omega⟩, hb, Nat.pow_succ, Nat.add_assoc]
      congr 1
      rw [Nat.add_mul, Nat.mul_assoc]
      omega
theorem itoa_nat (n : Nat) : Lib.itoa (n : Int) = Lib.decDigits n := by
  unfold Lib.itoa
  rw [if_neg (by omega), Int.toNat_natCast]
theorem itoa_len (n : Nat) : (Lib.itoa (n : Int)).length = Lib.nDigits n := by rw [itoa_nat, Lib.decDigits_length]
theorem nDigits_le {u k : Nat} (h : u < 10 ^ (k + 1)) : Lib.nDigits u ≤ k + 1 := by
  induction k generalizing u with
  | zero => rw [Lib.nDigits_small (by simpa using h)]; exact Nat.le_refl _
  | succ k ih =>
    by_cases hu : u < 10
    · rw [Lib.nDigits_small hu]; omega
    · rw [Lib.nDigits_big hu]
      have : u / 10 < 10 ^ (k + 1) := by
        rw [Nat.pow_succ] at h
        omega
      have := ih this
      omega
theorem dec_first {u : Nat} : ∃ (b : UInt8) (r : List UInt8), Lib.decDigits u = b :: r ∧ 48 ≤ b.toNat ∧ b.toNat ≤ 57 ∧ (0 < u → 49 ≤ b.toNat) ∧ (u = 0 → b.toNat = 48 ∧ r = []) := by
  induction u using Nat.strongRecOn with
  | _ u ih =>
    by_cases hu : u < 10
    · rw [Lib.decDigits, dif_pos hu]
      have := ofNat_toNat (n := 48 + u) (by omega)
      exact ⟨_, _, rfl, by omega, by omega, fun _ => by omega, fun _ => ⟨by omega, rfl⟩⟩
    · rw [Lib.decDigits, dif_neg hu]
      obtain ⟨b, r, h1, h2, h3, h4, _⟩ := ih (u / 10) (by omega)
      rw [h1]
      exact ⟨b, r ++ [UInt8.ofNat (48 + u % 10)], rfl, h2, h3, fun _ => h4 (by omega), fun h => by omega⟩
theorem digF_num {s : ByteArray} {p k n : Nat} {r : List UInt8} (h : Tl s p (Lib.itoa (n : Int) ++ r)) (hr : noDig r) (hn : n < 10 ^ (k + 1)) : digF s (k + 1) p 0 = (n, p + Lib.nDigits n) := by
  rw [itoa_nat] at h
  have hle := nDigits_le hn
  have h1 := digF_dec n (k + 1 - Lib.nDigits n) p 0 h
  rw [show k + 1 - Lib.nDigits n + Lib.nDigits n = k + 1 by omega] at h1
  have h2 := h.skip
  rw [Lib.decDigits_length] at h2
  rw [h1, digF_stop (h2.nodig hr)]
  simp
/-- A number that is read. -/
theorem Tl.num {s : ByteArray} {p k n : Nat} {r : List UInt8} (h : Tl s p (Lib.itoa (n : Int) ++ r)) (hr : noDig r) (hn : n < 10 ^ (k + 1)) :
    numF s (k + 1) ⟨p, false⟩ = (n, ⟨p + Lib.nDigits n, false⟩) ∧ Tl s (p + Lib.nDigits n) r := by
  have h2 := h.skip
  rw [itoa_len] at h2
  refine ⟨?_, h2⟩
  obtain ⟨b, q, h1, h3, h4, h5, h6⟩ := dec_first (u := n)
  have hb : byteAt s p = b.toNat := by
    rw [itoa_nat, h1] at h
    exact h.byte
  by_cases h0 : n = 0
  · subst h0
    rw [numF_zero rfl (by rw [show (⟨p, false⟩ : St).pos = p from rfl, hb]; exact (h6 rfl).1), Lib.nDigits_small (by omega)]
  · have := h5 (by omega)
    rw [numF_dig rfl (by show 49 ≤ byteAt s p ∧ byteAt s p ≤ 57; omega)]
    show ((digF s (k + 1) p 0).1, (⟨(digF s (k + 1) p 0).2, false⟩ : St)) = _
    rw [digF_num h hr hn]
theorem Tl.scnum {s : ByteArray} {p n : Nat} {b : Bool} {r : List UInt8} (h : Tl s p (Lib.itoa (n : Int) ++ r)) (hr : noDig r) (hn : n < 10 ^ 9) :
    scNum s ⟨p, b⟩ = (n, ⟨p + Lib.nDigits n, b⟩) ∧ Tl s (p + Lib.nDigits n) r := by
  have h2 := h.skip
  rw [itoa_len] at h2
  refine ⟨?_, h2⟩
  unfold scNum
  rw [show (⟨p, b⟩ : St).pos = p from rfl, digF_num (k := 8) h hr hn]
  have := Lib.nDigits_pos n
  have e : decide (p + Lib.nDigits n = p) = false := decide_eq_false (by omega)
  simp only [e, Bool.or_false]
theorem Tl.must {s : ByteArray} {p c : Nat} {b : UInt8} {bad : Bool} {r : List UInt8} (h : Tl s p (b :: r)) (hc : b.toNat = c) : scMust s c ⟨p, bad⟩ = ⟨p + 1, bad⟩ ∧ Tl s (p + 1) r := by
  refine ⟨?_, h.next⟩
  unfold scMust
  rw [if_pos (by show byteAt s p = c; rw [h.byte, hc])]
theorem Tl.take {s : ByteArray} {p c : Nat} {b : UInt8} {r : List UInt8} (h : Tl s p (b :: r)) (hc : b.toNat = c) : takeF s c ⟨p, false⟩ = ⟨p + 1, false⟩ ∧ Tl s (p + 1) r :=
  ⟨takeF_yes rfl (by show byteAt s p = c; rw [h.byte, hc]), h.next⟩
theorem Tl.one {s : ByteArray} {p lo hi : Nat} {b : UInt8} {r : List UInt8} (h : Tl s p (b :: r)) (h1 : lo ≤ b.toNat) (h2 : b.toNat ≤ hi) : oneF s lo hi ⟨p, false⟩ = (b.toNat - lo, ⟨p + 1, false⟩) ∧ Tl s (p + 1) r := by
  refine ⟨?_, h.next⟩
  rw [oneF_yes rfl (by show lo ≤ byteAt s p; rw [h.byte]; exact h1) (by show byteAt s p ≤ hi; rw [h.byte]; exact h2)]
  show (byteAt s p - lo, _) = _
  rw [h.byte]
theorem Tl.name {s : ByteArray} {p pl no : Nat} {bad : Bool} {r : List UInt8} (h : Tl s p (UInt8.ofNat (97 + pl) :: UInt8.ofNat (48 + no) :: r)) (h1 : pl < 4) (h2 : no < 10) : scName s ⟨p, bad⟩ = ((pl, no), ⟨p + 2, bad⟩) ∧ Tl s (p + 2) r := by
  refine ⟨?_, h.next.next⟩
  have b1 := h.byte
  have b2 := h.next.byte
  rw [ofNat_toNat (by omega)] at b1 b2
  unfold scName
  rw [if_pos (by exact h.next.lt), if_pos ⟨by show 97 ≤ byteAt s p; omega, by show byteAt s p ≤ 100; omega, by show 48 ≤ byteAt s (p + 1); omega, by show byteAt s (p + 1) ≤ 57; omega⟩]
  show ((byteAt s p - 97, byteAt s (p + 1) - 48), _) = _
  rw [b1, b2]
  simp
end Hx
end Go.Proofs.YtppcnlkhdgmaiaaDoor
namespace Go.Proofs.YtppcnlkhdgmaiaaDoor
namespace Hx
theorem at_lt {α : Type} {l : List α} {i : Nat} {x : α} (h : l[i]? = some x) : i < l.length := by
  rcases Nat.lt_or_ge i l.length with g | g
  · exact g
  · rw [List.getElem?_eq_none g] at h; cases h
theorem right_own {l : List TStp} (h : Right l) {i : Nat} {x : TStp} (hx : l[i]? = some x) : x.no = (holdF (l.take i) x.pl).2 ∧ x.out = (holdF (l.take i) x.pl).1 ∧ x.lo ≤ x.hi ∧ 1 ≤ x.lo := by
  have := h.right i (at_lt hx)
  unfold rightF at this
  rw [hx] at this
  simp only [Bool.and_eq_true] at this
  have h1 := this.1
  unfold ownRight at h1
  simp only [Bool.and_eq_true, beq_iff_eq, Bool.not_eq_true', decide_eq_false_iff_not] at h1
  obtain ⟨⟨⟨⟨a, b⟩, c⟩, d⟩, e⟩ := h1
  refine ⟨a, e, by omega, ?_⟩
  have : ¬ x.lo = 0 := by simpa using b
  omega
theorem take_more {α : Type} {l : List α} {i : Nat} {x : α} (h : l[i]? = some x) : l.take (i + 1) = l.take i ++ [x] := by rw [List.take_add_one, h]; rfl
theorem hold_at {l : List TStp} {i : Nat} {x : TStp} (h : l[i]? = some x) (p : Nat) : holdF (l.take (i + 1)) p = if x.pl = p then (x.inn, (holdF (l.take i) p).2 + 1) else holdF (l.take i) p := by rw [take_more h, holdF_snoc]
theorem hold_mono {l : List TStp} {p : Nat} : ∀ (d i : Nat), (holdF (l.take i) p).2 ≤ (holdF (l.take (i + d)) p).2
  | 0, _ => Nat.le_refl _
  | d + 1, i => by
    have h1 := hold_mono (l := l) (p := p) d i
    refine Nat.le_trans h1 ?_
    rw [← Nat.add_assoc]
    cases h : l[i + d]? with
    | none =>
      have hl : l.length ≤ i + d := List.getElem?_eq_none_iff.1 h
      rw [List.take_of_length_le hl, List.take_of_length_le (by omega)]
      exact Nat.le_refl _
    | some x =>
      rw [hold_at h]
      split <;> simp
/-- The plate's step ahead: it is the last of its plate, and the plate stays where it was put. -/
theorem ahead_last {l : List TStp} (h : Right l) {k i : Nat} {x y : TStp} (hx : l[k]? = some x) (hy : l[i]? = some y) (_hik : i < k) (hp : y.pl = x.pl) (hn : y.no + 1 = x.no) :
    ∀ j z, i < j → j < k → l[j]? = some z → z.pl ≠ x.pl := by
  intro j z hij hjk hz e
  have a1 := (right_own h hx).1
  have a2 := (right_own h hy).1
  have a3 := (right_own h hz).1
  have b1 := hold_at hy x.pl
  rw [if_pos hp] at b1
  have b3 := hold_at hz x.pl
  rw [if_pos e] at b3
  have c1 := hold_mono (l := l) (p := x.pl) (j - (i + 1)) (i + 1)
  rw [show i + 1 + (j - (i + 1)) = j by omega, b1] at c1
  have c2 := hold_mono (l := l) (p := x.pl) (k - (j + 1)) (j + 1)
  rw [show j + 1 + (k - (j + 1)) = k by omega, b3] at c2
  rw [hp] at a2
  simp only at c1 c2
  omega
theorem hold_kept {l : List TStp} {p i : Nat} : ∀ (d : Nat), (∀ j z, i ≤ j → j < i + d → l[j]? = some z → z.pl ≠ p) → holdF (l.take (i + d)) p = holdF (l.take i) p
  | 0, _ => rfl
  | d + 1, h => by
    rw [← Nat.add_assoc]
    cases hz : l[i + d]? with
    | none =>
      have hl : l.length ≤ i + d := List.getElem?_eq_none_iff.1 hz
      have e1 : l.take (i + d + 1) = l.take (i + d) := by rw [List.take_of_length_le hl, List.take_of_length_le (by omega)]
      rw [e1]
      exact hold_kept d (fun j z a b c => h j z a (by omega) c)
    | some z =>
      rw [hold_at hz, if_neg (h (i + d) z (by omega) (by omega) hz)]
      exact hold_kept d (fun j z a b c => h j z a (by omega) c)
theorem ahead_inn {l : List TStp} (h : Right l) {k i : Nat} {x y : TStp} (hx : l[k]? = some x) (hy : l[i]? = some y) (hik : i < k) (hp : y.pl = x.pl) (hn : y.no + 1 = x.no) (hr : x.rest = true) : 0 ≤ y.inn := by
  have a1 := rest_held h hx hr
  have hl := ahead_last h hx hy hik hp hn
  have e := hold_kept (l := l) (p := x.pl) (i := i + 1) (k - (i + 1)) (fun j z a b c => hl j z (by omega) (by omega) c)
  rw [show i + 1 + (k - (i + 1)) = k by omega, hold_at hy, if_pos hp] at e
  rw [e] at a1
  exact a1

/-- A step has begun as it should. -/
def Beg (l : List TStp) (J : Nat) (sts : List (Nat × Option Nat)) (i : Nat) (x : TStp) (b : Nat) : Prop :=
  x.t ≤ b ∧ b ≤ x.t + J ∧ (x.rest = true → ∀ (j : Nat) (y : TStp) (b' e' : Nat), j < i → l[j]? = some y → y.pl = x.pl → y.no + 1 = x.no → sts[j]? = some (b', some e') → (x.mn : Int) ≤ (b : Int) - e' ∧ (b : Int) - e' ≤ x.mx)
/-- A step was over as it should be. -/
def FinD (l : List TStp) (J : Nat) (sts : List (Nat × Option Nat)) (i : Nat) : Prop :=
  ∃ x b e, l[i]? = some x ∧ sts[i]? = some (b, some e) ∧ b + x.lo ≤ e ∧ e ≤ b + x.hi ∧ Beg l J sts i x b
/-- What has been told so far, with k steps that were over as they should be. -/
structure Sof (l : List TStp) (J : Nat) (sts : List (Nat × Option Nat)) (k : Nat) : Prop where
  kl : k ≤ l.length
  ks : k ≤ sts.length
  sl : sts.length ≤ l.length
  sk : sts.length ≤ k + 1
  fin : ∀ i, i < k → FinD l J sts i
  ord : ∀ (i b : Nat) (o : Option Nat), sts[i + 1]? = some (b, o) → ∃ b0 e0, sts[i]? = some (b0, some e0) ∧ e0 ≤ b
  pos : ∀ (i b e : Nat), sts[i]? = some (b, some e) → b ≤ e
structure Inv (l : List TStp) (J : Nat) (m : Ms) : Prop where
  so : Sof l J m.sts m.k
  len : m.sts.length = m.k + (if m.work then 1 else 0)
  beg : m.work = true → ∃ x b, l[m.k]? = some x ∧ m.sts[m.k]? = some (b, none) ∧ b ≤ m.time ∧ Beg l J m.sts m.k x b
  tm : ∀ (i b e : Nat), i < m.k → m.sts[i]? = some (b, some e) → e ≤ m.time
  rbl : m.rb.length = 4
  rb : ∀ (i : Nat) (y : TStp) (b e : Nat), i < m.k → l[i]? = some y → 0 ≤ y.inn → (∀ j z, i < j → j < m.k → l[j]? = some z → z.pl ≠ y.pl) → m.sts[i]? = some (b, some e) → m.rb.getD y.pl 0 = (e : Int)

theorem Inv.start (l : List TStp) (J : Nat) : Inv l J startM := by
  refine ⟨⟨Nat.zero_le _, Nat.zero_le _, Nat.zero_le _, Nat.zero_le _, fun i hi => absurd hi (Nat.not_lt_zero _), fun i b o h => ?_, fun i b e h => ?_⟩, rfl, fun h => (by cases h), fun i b e h => absurd h (Nat.not_lt_zero _), rfl, fun i y b e h => absurd h (Nat.not_lt_zero _)⟩
  · simp [startM] at h
  · simp [startM] at h
theorem Inv.later {l : List TStp} {J : Nat} {m : Ms} (h : Inv l J m) (c : Nat) : Inv l J { m with time := m.time + c } := by
  refine ⟨h.so, h.len, fun hw => ?_, fun i b e hi hs => ?_, h.rbl, h.rb⟩
  · obtain ⟨x, b, h1, h2, h3, h4⟩ := h.beg hw
    exact ⟨x, b, h1, h2, by show b ≤ m.time + c; omega, h4⟩
  · have := h.tm i b e hi hs
    show e ≤ m.time + c
    omega
theorem began_is {l : List TStp} {J : Nat} {m : Ms} (_h : Inv l J m) {b : Nat} {o : Option Nat} (hs : m.sts[m.k]? = some (b, o)) : beganM m = b := by
  unfold beganM
  rw [List.getD_eq_getElem?_getD, hs]
  rfl
/-- What is told of a step at work that ends. -/
theorem Sof.ends {l : List TStp} {J : Nat} {m : Ms} (h : Inv l J m) (hw : m.work = true) (tk : Nat) : Sof l J (m.sts.set m.k (beganM m, some (beganM m + tk))) m.k := by
  obtain ⟨x, b, h1, h2, h3, h4⟩ := h.beg hw
  have hb := began_is h h2
  have hlen := h.len
  rw [hw] at hlen
  simp at hlen
  have hlt := at_lt h1
  have ho := h.so
  have hset : ∀ i, i < m.k → (m.sts.set m.k (beganM m, some (beganM m + tk)))[i]? = m.sts[i]? := fun i hi => by rw [List.getElem?_set_ne (by omega)]
  refine ⟨ho.kl, by rw [List.length_set]; omega, by rw [List.length_set]; omega, by rw [List.length_set]; omega, fun i hi => ?_, fun i b' o hi => ?_, fun i b' e' hi => ?_⟩
  · obtain ⟨x', b', e', a1, a2, a3, a4, a5, a6, a7⟩ := ho.fin i hi
    refine ⟨x', b', e', a1, by rw [hset i hi]; exact a2, a3, a4, a5, a6, fun hr j y b2 e2 hj hy hp hn hs => ?_⟩
    rw [hset j (by omega)] at hs
    exact a7 hr j y b2 e2 hj hy hp hn hs
  · have hil := at_lt hi
    rw [List.length_set] at hil
    by_cases e : i + 1 = m.k
    · have hk : (m.sts.set m.k (beganM m, some (beganM m + tk)))[i + 1]? = some (beganM m, some (beganM m + tk)) := by
        rw [e, List.getElem?_set_self (by omega)]
      rw [hk] at hi
      cases hi
      obtain ⟨b0, e0, c1, c2⟩ := ho.ord i b none (by rw [e]; exact h2)
      exact ⟨b0, e0, by rw [hset i (by omega)]; exact c1, by omega⟩
    · rw [hset (i + 1) (by omega)] at hi
      obtain ⟨b0, e0, c1, c2⟩ := ho.ord i b' o hi
      exact ⟨b0, e0, by rw [hset i (by omega)]; exact c1, c2⟩
  · have hil := at_lt hi
    rw [List.length_set] at hil
    by_cases e : i = m.k
    · subst e
      rw [List.getElem?_set_self (by omega)] at hi
      cases hi
      omega
    · rw [hset i (by omega)] at hi
      exact ho.pos i b' e' hi
theorem Inv.finish {l : List TStp} (hr : Right l) {J : Nat} {takes : List Nat} {m m' : Ms} {x : TStp} (h : Inv l J m) (hw : m.work = true) (hx : l[m.k]? = some x) (hov : overM takes m = true) (hf : finishM x (takes.getD m.k 0) m = (none, m')) : Inv l J m' := by
  obtain ⟨x', b, h1, h2, h3, h4⟩ := h.beg hw
  rw [hx] at h1
  cases h1
  have hb := began_is h h2
  have hlen := h.len
  rw [hw] at hlen
  simp at hlen
  have hlt := at_lt hx
  have hso := Sof.ends h hw (takes.getD m.k 0)
  have hte : beganM m + takes.getD m.k 0 ≤ m.time := by
    unfold overM at hov
    simp only [Bool.and_eq_true, decide_eq_true_eq] at hov
    exact hov.2
  have hlo : ¬ takes.getD m.k 0 < x.lo ∧ ¬ x.hi < takes.getD m.k 0 := by
    unfold finishM at hf
    split at hf
    · cases hf
    · split at hf
      · cases hf
      · exact ⟨by assumption, by assumption⟩
  rw [finishM_none hf]
  have hset : ∀ i, i < m.k → (m.sts.set m.k (beganM m, some (beganM m + takes.getD m.k 0)))[i]? = m.sts[i]? := fun i hi => by rw [List.getElem?_set_ne (by omega)]
  have hself : (m.sts.set m.k (beganM m, some (beganM m + takes.getD m.k 0)))[m.k]? = some (beganM m, some (beganM m + takes.getD m.k 0)) := by rw [List.getElem?_set_self (by omega)]
  have hpl := (hr.ok x (List.mem_of_getElem? hx)).pl
  refine ⟨⟨by show m.k + 1 ≤ _; omega, by show m.k + 1 ≤ _; rw [List.length_set]; omega, hso.sl, by show _ ≤ m.k + 1 + 1; rw [List.length_set]; omega, fun i hi => ?_, hso.ord, hso.pos⟩, by show (m.sts.set _ _).length = m.k + 1 + 0; rw [List.length_set]; omega, fun h => (by cases h), fun i b' e' hi hs => ?_, ?_, ?_⟩
  · by_cases e : i = m.k
    · subst e
      refine ⟨x, beganM m, beganM m + takes.getD m.k 0, hx, hself, by omega, by omega, by rw [hb]; exact h4.1, by rw [hb]; exact h4.2.1, fun hrest j y b2 e2 hj hy hp hn hs => ?_⟩
      rw [hset j hj] at hs
      rw [hb]
      exact h4.2.2 hrest j y b2 e2 hj hy hp hn hs
    · exact hso.fin i (by have : i < m.k + 1 := hi; omega)
  · by_cases e : i = m.k
    · subst e
      rw [hself] at hs
      cases hs
      exact hte
    · have hi' : i < m.k + 1 := hi
      rw [hset i (by omega)] at hs
      exact h.tm i b' e' (by omega) hs
  · show (if 0 ≤ x.inn then m.rb.set x.pl _ else m.rb).length = 4
    split
    · rw [List.length_set]; exact h.rbl
    · exact h.rbl
  · intro i y b' e' hi hy hin hlast hs
    have hi' : i < m.k + 1 := hi
    show (if 0 ≤ x.inn then m.rb.set x.pl ((beganM m + takes.getD m.k 0 : Nat) : Int) else m.rb).getD y.pl 0 = (e' : Int)
    by_cases e : i = m.k
    · subst e
      rw [hx] at hy
      cases hy
      rw [hself] at hs
      cases hs
      rw [if_pos hin, List.getD_eq_getElem?_getD, List.getElem?_set_self (by rw [h.rbl]; exact hpl)]
      rfl
    · have hne := hlast m.k x (by omega) (by show m.k < m.k + 1; omega) hx
      rw [hset i (by omega)] at hs
      have := h.rb i y b' e' (by omega) hy hin (fun j z a b c => hlast j z a (by show j < m.k + 1; omega) c) hs
      split
      · rw [List.getD_eq_getElem?_getD, List.getElem?_set_ne hne, ← List.getD_eq_getElem?_getD]
        exact this
      · exact this
theorem Inv.begin {l : List TStp} (hr : Right l) {J : Nat} {m m' : Ms} {x : TStp} (h : Inv l J m) (hw : m.work = false) (hx : l[m.k]? = some x) (ht : ¬ m.time < x.t) (hf : beginM J x m = (none, m')) : Inv l J m' := by
  have hlen := h.len
  rw [hw] at hlen
  simp at hlen
  have hlt := at_lt hx
  have ho := h.so
  have hw1 : ¬ x.t + J < m.time ∧ windowB x ((m.time : Int) - m.rb.getD x.pl 0) = false := by
    unfold beginM at hf
    split at hf
    · cases hf
    · rename_i g1
      split at hf
      · cases hf
      · rename_i g2
        exact ⟨g1, by cases hq : windowB x ((m.time : Int) - m.rb.getD x.pl 0) with
          | false => rfl
          | true => exact absurd hq g2⟩
  rw [beginM_none hf]
  have happ : ∀ i, i < m.k → (m.sts ++ [(m.time, none)])[i]? = m.sts[i]? := fun i hi => by rw [List.getElem?_append_left (by omega)]
  have hself : (m.sts ++ [(m.time, (none : Option Nat))])[m.k]? = some (m.time, none) := by rw [← hlen, List.getElem?_append_right (Nat.le_refl _), Nat.sub_self]; rfl
  have hbeg : Beg l J (m.sts ++ [(m.time, none)]) m.k x m.time := by
    refine ⟨by omega, by omega, fun hrest j y b2 e2 hj hy hp hn hs => ?_⟩
    rw [happ j hj] at hs
    have h1 := h.rb j y b2 e2 hj hy (ahead_inn hr hx hy hj hp hn hrest) (by rw [hp]; exact ahead_last hr hx hy hj hp hn) hs
    have h2 := hw1.2
    unfold windowB at h2
    rw [hrest, Bool.true_and, Bool.or_eq_false_iff, decide_eq_false_iff_not, decide_eq_false_iff_not] at h2
    rw [hp] at h1
    rw [h1] at h2
    omega
  refine ⟨⟨ho.kl, by show m.k ≤ (m.sts ++ [(m.time, none)]).length; rw [List.length_append]; omega, by rw [List.length_append]; simp; omega, by rw [List.length_append]; simp; omega, fun i hi => ?_, fun i b' o hi => ?_, fun i b' e' hi => ?_⟩, by show (m.sts ++ [(m.time, none)]).length = m.k + 1; rw [List.length_append]; simp; omega, fun _ => ⟨x, m.time, hx, hself, Nat.le_refl _, hbeg⟩, fun i b' e' hi hs => ?_, h.rbl, fun i y b' e' hi hy hin hlast hs => ?_⟩
  · obtain ⟨x', b', e', a1, a2, a3, a4, a5, a6, a7⟩ := ho.fin i hi
    have hi' : i < m.k := hi
    refine ⟨x', b', e', a1, by rw [happ i hi']; exact a2, a3, a4, a5, a6, fun hrest j y b2 e2 hj hy hp hn hs => ?_⟩
    rw [happ j (by omega)] at hs
    exact a7 hrest j y b2 e2 hj hy hp hn hs
  · have hil := at_lt hi
    rw [List.length_append] at hil
    simp at hil
    by_cases e : i + 1 = m.k
    · rw [e, hself] at hi
      cases hi
      obtain ⟨x', b0, e0, a1, a2, _⟩ := ho.fin i (by omega)
      exact ⟨b0, e0, by rw [happ i (by omega)]; exact a2, h.tm i b0 e0 (by omega) a2⟩
    · rw [happ (i + 1) (by omega)] at hi
      obtain ⟨b0, e0, c1, c2⟩ := ho.ord i b' o hi
      exact ⟨b0, e0, by rw [happ i (by omega)]; exact c1, c2⟩
  · have hil := at_lt hi
    rw [List.length_append] at hil
    simp at hil
    by_cases e : i = m.k
    · rw [e, hself] at hi; cases hi
    · rw [happ i (by omega)] at hi
      exact ho.pos i b' e' hi
  · rw [happ i hi] at hs
    exact h.tm i b' e' hi hs
  · rw [happ i hi] at hs
    exact h.rb i y b' e' hi hy hin hlast hs

/-- What a look comes to. -/
def LkS (l : List TStp) (J : Nat) (r : Nat × Ms) : Prop := Sof l J r.2.sts r.2.k ∧ (r.1 = 1 → r.2.k = l.length) ∧ (r.1 = 0 → Inv l J r.2) ∧ r.1 < 6 ∧ (2 ≤ r.1 → r.2.k < l.length)
theorem one_cases {l : List TStp} (hr : Right l) {J : Nat} {takes : List Nat} {m : Ms} (h : Inv l J m) :
    (∃ m', oneM l J takes m = (none, m') ∧ Inv l J m') ∨ (∃ e m', oneM l J takes m = (some e, m') ∧ LkS l J (e, m')) := by
  unfold oneM
  cases hx : l[m.k]? with
  | none =>
    refine Or.inr ⟨_, _, rfl, h.so, fun he => ?_, fun _ => h, ?_, ?_⟩
    · have := List.getElem?_eq_none_iff.1 hx
      have := h.so.kl
      show m.k = _
      omega
    · show (if m.work = true then 0 else 1) < 6; split <;> omega
    · intro h2
      have h3 : 2 ≤ (if m.work = true then 0 else 1) := h2
      split at h3 <;> omega
  | some x =>
    have hlt := at_lt hx
    simp only
    by_cases hw : m.work = true
    · rw [if_pos hw]
      by_cases hov : overM takes m = true
      · rw [if_pos hov]
        cases hf : finishM x (takes.getD m.k 0) m with
        | mk r m' =>
          cases r with
          | none => exact Or.inl ⟨m', rfl, h.finish hr hw hx hov hf⟩
          | some e =>
            refine Or.inr ⟨e, m', rfl, ?_⟩
            have hs := Sof.ends h hw (takes.getD m.k 0)
            unfold finishM at hf
            split at hf
            · cases hf
              exact ⟨hs, fun h => (by cases h), fun h => (by cases h), by show 2 < 6; omega, fun _ => hlt⟩
            · split at hf
              · cases hf
                exact ⟨hs, fun h => (by cases h), fun h => (by cases h), by show 3 < 6; omega, fun _ => hlt⟩
              · cases hf
      · rw [if_neg hov]
        split
        · exact Or.inr ⟨_, _, rfl, h.so, fun h => (by cases h), fun h => (by cases h), by show 3 < 6; omega, fun _ => hlt⟩
        · exact Or.inr ⟨_, _, rfl, h.so, fun h => (by cases h), fun _ => h, by show 0 < 6; omega, fun h => absurd h (by show ¬ 2 ≤ 0; omega)⟩
    · rw [if_neg hw]
      have hw : m.work = false := by simpa using hw
      by_cases ht : m.time < x.t
      · rw [if_pos ht]
        exact Or.inr ⟨_, _, rfl, h.so, fun h => (by cases h), fun _ => h, by show 0 < 6; omega, fun h => absurd h (by show ¬ 2 ≤ 0; omega)⟩
      · rw [if_neg ht]
        cases hf : beginM J x m with
        | mk r m' =>
          cases r with
          | none => exact Or.inl ⟨m', rfl, h.begin hr hw hx ht hf⟩
          | some e =>
            refine Or.inr ⟨e, m', rfl, ?_⟩
            unfold beginM at hf
            split at hf
            · cases hf
              exact ⟨h.so, fun h => (by cases h), fun h => (by cases h), by show 4 < 6; omega, fun _ => hlt⟩
            · split at hf
              · cases hf
                exact ⟨h.so, fun h => (by cases h), fun h => (by cases h), by show 5 < 6; omega, fun _ => hlt⟩
              · cases hf
theorem look_safe {l : List TStp} (hr : Right l) {J : Nat} {takes : List Nat} : ∀ (n : Nat) (m : Ms), muM l m ≤ n → Inv l J m → LkS l J (lookM l J takes m)
  | n, m, hn, h => by
    rcases one_cases (takes := takes) hr h with ⟨m', h1, h2⟩ | ⟨e, m', h1, h2⟩
    · have hmu := oneM_mu h1
      rw [lookM_none h1]
      cases n with
      | zero => omega
      | succ n => exact look_safe hr n m' (by omega) h2
    · rw [lookM_some h1]
      exact h2
theorem run_safe {l : List TStp} (hr : Right l) {J : Nat} {takes : List Nat} : ∀ (cs : List Nat) (r : Nat × Ms), LkS l J r → LkS l J (runM l J takes cs r)
  | [], r, h => h
  | c :: cs, r, h => by
    by_cases h0 : r.1 = 0
    · rw [runM_cons h0]
      exact run_safe hr cs _ (look_safe hr _ _ (Nat.le_refl _) ((h.2.2.1 h0).later c))
    · rw [runM_end h0]
      exact h
theorem mach_safe {l : List TStp} (hr : Right l) (J : Nat) (clock takes : List Nat) : LkS l J (machF l J clock takes) :=
  run_safe hr clock _ (look_safe hr _ _ (Nat.le_refl _) (Inv.start l J))
end Hx
end Go.Proofs.YtppcnlkhdgmaiaaDoor
namespace Go.Proofs.YtppcnlkhdgmaiaaDoor
namespace Hx

/-- An event, as it is scanned. -/
structure Evt where
  pl : Nat
  no : Nat
  fr : Nat
  en : Int
def evPre (s : ByteArray) (n : Nat) (st : St) : St := if n = 0 then st else scMust s 44 st
def evDash (s : ByteArray) (n : Nat) (st : St) : St := scMust s 45 (scNum s (scMust s 58 (scName s (evPre s n st)).2)).2
def evMore (s : ByteArray) (n : Nat) (st : St) : Prop := (evDash s n st).pos < s.size ∧ byteAt s (evDash s n st).pos ≠ 44
instance (s : ByteArray) (n : Nat) (st : St) : Decidable (evMore s n st) := by unfold evMore; infer_instance
def evHead (s : ByteArray) (n : Nat) (st : St) (en : Int) : Evt := ⟨(scName s (evPre s n st)).1.1, (scName s (evPre s n st)).1.2, (scNum s (scMust s 58 (scName s (evPre s n st)).2)).1, en⟩
def evStep (s : ByteArray) (n : Nat) (st : St) : Evt × St :=
  if evMore s n st then (evHead s n st ((scNum s (evDash s n st)).1 : Int), (scNum s (evDash s n st)).2)
  else (evHead s n st (-1), evDash s n st)
theorem evStep_more {s : ByteArray} {n : Nat} {st : St} (h : evMore s n st) : evStep s n st = (evHead s n st ((scNum s (evDash s n st)).1 : Int), (scNum s (evDash s n st)).2) := by rw [evStep, if_pos h]
theorem evStep_none {s : ByteArray} {n : Nat} {st : St} (h : ¬ evMore s n st) : evStep s n st = (evHead s n st (-1), evDash s n st) := by rw [evStep, if_neg h]
theorem evPre_le {s : ByteArray} {n : Nat} {st : St} (h : st.pos ≤ s.size) : (evPre s n st).pos ≤ s.size := by
  unfold evPre; split
  · exact h
  · exact scMust_le (by omega) h
theorem scName_gt {s : ByteArray} {st : St} (h : (scName s st).2.bad = false) : st.pos + 2 = (scName s st).2.pos := by
  unfold scName at h ⊢
  split at h
  · rename_i g1
    rw [if_pos g1]
    split at h
    · rename_i g2; rw [if_pos g2]
    · cases h
  · cases h
theorem evDash_gt {s : ByteArray} {n : Nat} {st : St} (h : (evDash s n st).bad = false) : st.pos < (evDash s n st).pos := by
  have h1 : (scName s (evPre s n st)).2.bad = false := by
    cases hb : (scName s (evPre s n st)).2.bad
    · rfl
    · have : (evDash s n st).bad = true := scMust_bad (scNum_bad (scMust_bad hb))
      rw [h] at this; cases this
  have h2 := scName_gt h1
  have h3 : (scName s (evPre s n st)).2.pos ≤ (evDash s n st).pos := Nat.le_trans (scMust_ge s 58 _) (Nat.le_trans (scNum_ge s _) (scMust_ge s 45 _))
  have h4 : st.pos ≤ (evPre s n st).pos := by
    unfold evPre; split
    · exact Nat.le_refl _
    · exact scMust_ge s 44 st
  omega
theorem evStep_gt {s : ByteArray} {n : Nat} {st : St} (h : (evStep s n st).2.bad = false) : st.pos < (evStep s n st).2.pos := by
  by_cases g : evMore s n st
  · rw [evStep_more g] at h ⊢
    have hb : (evDash s n st).bad = false := by
      cases hb : (evDash s n st).bad
      · rfl
      · have := scNum_bad (s := s) hb
        rw [h] at this; cases this
    exact Nat.lt_of_lt_of_le (evDash_gt hb) (scNum_ge s _)
  · rw [evStep_none g] at h ⊢
    exact evDash_gt h
theorem evm_lt {s : ByteArray} {n : Nat} {st : St} (h1 : st.bad = false) (h2 : st.pos < s.size) : mT s (evStep s n st).2 < mT s st := by
  have e : mT s st = s.size - st.pos := by simp [mT, h1, h2]
  rw [e]
  unfold mT
  split
  · rename_i g
    have := evStep_gt g.1
    omega
  · omega
def evAll (s : ByteArray) (st : St) (acc : List Evt) : St × List Evt :=
  if _h : st.bad = false ∧ st.pos < s.size then evAll s (evStep s acc.length st).2 (acc ++ [(evStep s acc.length st).1]) else (st, acc)
termination_by mT s st
decreasing_by exact evm_lt _h.1 _h.2
theorem evAll_more {s : ByteArray} {st : St} {acc : List Evt} (h1 : st.bad = false) (h2 : st.pos < s.size) : evAll s st acc = evAll s (evStep s acc.length st).2 (acc ++ [(evStep s acc.length st).1]) := by
  rw [evAll, dif_pos ⟨h1, h2⟩]
theorem evAll_end {s : ByteArray} {st : St} {acc : List Evt} (h : ¬ (st.bad = false ∧ st.pos < s.size)) : evAll s st acc = (st, acc) := by
  rw [evAll, dif_neg h]
def evsF (s : ByteArray) : St × List Evt := evAll s ⟨0, false⟩ []

/-! ### Events are read back. -/
def evTo (o : Option Nat) : Int := match o with | some v => (v : Int) | none => -1
def evOf (x : TStp) (e : Nat × Option Nat) : Evt := ⟨x.pl, x.no, e.1, evTo e.2⟩
def toB : Option Nat → List UInt8
  | some v => Lib.itoa (v : Int)
  | none => []
theorem stintB_eq (e : Nat × Option Nat) : stintB e = Lib.itoa (e.1 : Int) ++ [45] ++ toB e.2 := by
  obtain ⟨a, o⟩ := e
  cases o <;> rfl
/-- Nothing, or a comma first. -/
def comma (r : List UInt8) : Prop := ∀ b, r[0]? = some b → b = 44
theorem comma_dig {r : List UInt8} (h : comma r) : noDig r := fun b hb => by rw [h b hb]; decide
theorem ev_step {s : ByteArray} {n p : Nat} {x : TStp} {e : Nat × Option Nat} {r : List UInt8} (hx : TOk x) (h1 : e.1 < 10 ^ 9) (h2 : ∀ v, e.2 = some v → v < 10 ^ 9) (hr : comma r)
    (h : Tl s p ((if n = 0 then [] else [44]) ++ entB x e ++ r)) : ∃ q, evStep s n ⟨p, false⟩ = (evOf x e, ⟨q, false⟩) ∧ Tl s q r := by
  obtain ⟨p1, e1, t1⟩ : ∃ p1, evPre s n ⟨p, false⟩ = ⟨p1, false⟩ ∧ Tl s p1 (entB x e ++ r) := by
    by_cases hn : n = 0
    · rw [if_pos hn, List.nil_append] at h
      exact ⟨p, by rw [evPre, if_pos hn], h⟩
    · rw [if_neg hn, List.append_assoc] at h
      obtain ⟨a, b⟩ := h.must (c := 44) (bad := false) (by rfl)
      exact ⟨p + 1, by rw [evPre, if_neg hn, a], b⟩
  have t1' : Tl s p1 (UInt8.ofNat (97 + x.pl) :: UInt8.ofNat (48 + x.no) :: (58 :: (Lib.itoa (e.1 : Int) ++ (45 :: (toB e.2 ++ r))))) := by
    have : entB x e ++ r = UInt8.ofNat (97 + x.pl) :: UInt8.ofNat (48 + x.no) :: (58 :: (Lib.itoa (e.1 : Int) ++ (45 :: (toB e.2 ++ r)))) := by
      simp [entB, nmB, stintB_eq]
    rw [← this]; exact t1
  obtain ⟨e2, t2⟩ := t1'.name (bad := false) hx.pl hx.no
  obtain ⟨e3, t3⟩ := t2.must (c := 58) (bad := false) (by rfl)
  obtain ⟨e4, t4⟩ := t3.scnum (b := false) (noDig_cons (by decide)) h1
  obtain ⟨e5, t5⟩ := t4.must (c := 45) (bad := false) (by rfl)
  have hd : evDash s n ⟨p, false⟩ = ⟨p1 + 2 + 1 + Lib.nDigits e.1 + 1, false⟩ := by
    unfold evDash; rw [e1, e2]; dsimp only; rw [e3, e4]; dsimp only; rw [e5]
  have hh : ∀ en, evHead s n ⟨p, false⟩ en = ⟨x.pl, x.no, e.1, en⟩ := fun en => by
    unfold evHead; rw [e1, e2]; dsimp only; rw [e3, e4]
  cases hv : e.2 with
  | none =>
    rw [hv] at t5
    have t6 : Tl s (p1 + 2 + 1 + Lib.nDigits e.1 + 1) r := t5
    have hno : ¬ evMore s n ⟨p, false⟩ := by
      unfold evMore
      rw [hd]
      rintro ⟨a, b⟩
      cases r with
      | nil => have := t6.ge; simp only at a; omega
      | cons c r =>
        have := hr c rfl
        subst this
        exact b t6.byte
    refine ⟨_, ?_, t6⟩
    rw [evStep_none hno, hh, hd]
    simp [evOf, hv, evTo]
  | some v =>
    rw [hv] at t5
    have t6 : Tl s (p1 + 2 + 1 + Lib.nDigits e.1 + 1) (Lib.itoa (v : Int) ++ r) := t5
    have hyes : evMore s n ⟨p, false⟩ := by
      unfold evMore
      rw [hd]
      obtain ⟨b, q, g1, g2, g3, _⟩ := dec_first (u := v)
      rw [itoa_nat, g1] at t6
      refine ⟨t6.lt, ?_⟩
      have := t6.byte
      exact fun h44 : byteAt s (p1 + 2 + 1 + Lib.nDigits e.1 + 1) = 44 => by omega
    obtain ⟨e6, t7⟩ := t6.scnum (b := false) (comma_dig hr) (h2 v hv)
    refine ⟨_, ?_, t7⟩
    rw [evStep_more hyes, hh, hd, e6]
    simp [evOf, hv, evTo]
/-- What is told is read back. -/
theorem ev_all {s : ByteArray} : ∀ (l : List TStp) (sts : List (Nat × Option Nat)) (acc : List Evt) (p : Nat), (∀ x ∈ l, TOk x) → (∀ e ∈ sts, e.1 < 10 ^ 9 ∧ ∀ v, e.2 = some v → v < 10 ^ 9) → acc ≠ [] →
    Tl s p (((List.zipWith entB l sts).map fun b => 44 :: b).flatten) → ∃ q, evAll s ⟨p, false⟩ acc = (⟨q, false⟩, acc ++ List.zipWith evOf l sts)
  | [], sts, acc, p, _, _, _, h => by
    rw [List.zipWith_nil_left] at h ⊢
    have h0 : Tl s p [] := h
    have := h0.ge
    exact ⟨p, by rw [evAll_end (by simp only; omega), List.append_nil]⟩
  | x :: l, [], acc, p, _, _, _, h => by
    rw [List.zipWith_nil_right] at h ⊢
    have h0 : Tl s p [] := h
    have := h0.ge
    exact ⟨p, by rw [evAll_end (by simp only; omega), List.append_nil]⟩
  | x :: l, e :: sts, acc, p, hx, he, ha, h => by
    rw [List.zipWith_cons_cons, List.map_cons, List.flatten_cons] at h
    have hlt : p < s.size := Tl.lt (b := 44) (r := entB x e ++ ((List.zipWith entB l sts).map fun b => 44 :: b).flatten) h
    have hal : acc.length ≠ 0 := fun g => ha (List.length_eq_zero_iff.1 g)
    have hc : comma ((List.zipWith entB l sts).map fun b => 44 :: b).flatten := by
      intro b hb
      cases hz : List.zipWith entB l sts with
      | nil => rw [hz] at hb; simp at hb
      | cons y z => rw [hz] at hb; simp at hb; exact hb.symm
    obtain ⟨q, e1, t1⟩ := ev_step (n := acc.length) (hx x (by simp)) (he e (by simp)).1 (he e (by simp)).2 hc (by rw [if_neg hal]; exact h)
    rw [evAll_more rfl hlt, e1]
    obtain ⟨q2, e2⟩ := ev_all l sts (acc ++ [evOf x e]) q (fun y hy => hx y (by simp [hy])) (fun y hy => he y (by simp [hy])) (by simp) t1
    exact ⟨q2, by rw [e2, List.zipWith_cons_cons]; simp⟩
theorem ev_read {l : List TStp} {sts : List (Nat × Option Nat)} (hx : ∀ x ∈ l, TOk x) (he : ∀ e ∈ sts, e.1 < 10 ^ 9 ∧ ∀ v, e.2 = some v → v < 10 ^ 9) :
    ∃ q, evsF ⟨(evB l sts).toArray⟩ = (⟨q, false⟩, List.zipWith evOf l sts) := by
  have h0 := Tl.start (evB l sts)
  unfold evsF
  cases l with
  | nil =>
    have h1 : Tl ⟨(evB [] sts).toArray⟩ 0 [] := h0
    have := h1.ge
    exact ⟨0, by rw [evAll_end (by simp only; omega), List.zipWith_nil_left]⟩
  | cons x l =>
    cases sts with
    | nil =>
      have h1 : Tl ⟨(evB (x :: l) []).toArray⟩ 0 [] := by rw [evB_nil] at h0 ⊢; exact h0
      have := h1.ge
      exact ⟨0, by rw [evAll_end (by simp only; omega), List.zipWith_nil_right]⟩
    | cons e sts =>
      have h1 : Tl ⟨(evB (x :: l) (e :: sts)).toArray⟩ 0 (entB x e ++ ((List.zipWith entB l sts).map fun b => 44 :: b).flatten) := h0
      generalize (⟨(evB (x :: l) (e :: sts)).toArray⟩ : ByteArray) = s at h1
      have hc : comma ((List.zipWith entB l sts).map fun b => 44 :: b).flatten := by
        intro b hb
        cases hz : List.zipWith entB l sts with
        | nil => rw [hz] at hb; simp at hb
        | cons y z => rw [hz] at hb; simp at hb; exact hb.symm
      have hlt : 0 < s.size := Tl.lt (b := UInt8.ofNat (97 + x.pl)) (r := UInt8.ofNat (48 + x.no) :: (58 :: stintB e ++ ((List.zipWith entB l sts).map fun b => 44 :: b).flatten)) (by
        have : entB x e ++ ((List.zipWith entB l sts).map fun b => 44 :: b).flatten = UInt8.ofNat (97 + x.pl) :: UInt8.ofNat (48 + x.no) :: (58 :: stintB e ++ ((List.zipWith entB l sts).map fun b => 44 :: b).flatten) := by simp [entB, nmB]
        rw [← this]; exact h1)
      obtain ⟨q, e1, t1⟩ := ev_step (n := 0) (hx x (by simp)) (he e (by simp)).1 (he e (by simp)).2 hc h1
      rw [evAll_more rfl hlt, List.length_nil, e1]
      obtain ⟨q2, e2⟩ := ev_all l sts [evOf x e] q (fun y hy => hx y (by simp [hy])) (fun y hy => he y (by simp [hy])) (by simp) t1
      exact ⟨q2, by rw [List.nil_append, e2, List.zipWith_cons_cons]; simp⟩
end Hx
end Go.Proofs.YtppcnlkhdgmaiaaDoor
namespace Go.Proofs.YtppcnlkhdgmaiaaDoor
open Go.RowKit

/-- An event: four cells. -/
def evtCells (y : Hx.Evt) : List Value := [.int .i64 (y.pl : Int), .int .i64 (y.no : Int), .int .i64 (y.fr : Int), .int .i64 y.en]
def evtsCells (l : List Hx.Evt) : List Value := l.flatMap evtCells
theorem evtsCells_snoc (l : List Hx.Evt) (y : Hx.Evt) : evtsCells (l ++ [y]) = evtsCells l ++ evtCells y := by simp [evtsCells]
theorem evtCells_one (y : Hx.Evt) : ∀ u ∈ evtCells y, u.oneCell' = true := by
  intro u hu
  simp [evtCells] at hu
  rcases hu with rfl | rfl | rfl | rfl <;> rfl
theorem Tryd.infoEvt : (Tryd.prog.info? 65).map (fun i => (i.zero, i.size, i.bytes)) = some (some (.agg #[.int .i64 0, .int .i64 0, .int .i64 0, .int .i64 0]), 4, 32) := by kernel_rfl

/-- What lies in memory while events reads, with an event under way in block xb. -/
structure InV (s : ByteArray) (w : World) (xb : Nat) (w' : World) (st : Hx.St) (xa : Array Value) (v : Value) (l : List Hx.Evt) : Prop where
  rd : Rd 95 s w.heap.size st w'
  be : Below w.heap.size w w'
  xx : w'.heap[xb]? = some (.cells xa 65 (0, 0))
  ow : w'.ownsRow (w.heap.size + 1) 65 4 v l.length (evtsCells l)
  ap : v.ownBlock ≠ some xb
  ge : w.heap.size + 1 ≤ xb
theorem InV.call {s w xb w' w'' st st' xa v l} (h : InV s w xb w' st xa v l) (hr : Rd 95 s w.heap.size st' w'') (hg : w'.grownBy w'' (some w.heap.size)) : InV s w xb w'' st' xa v l :=
  ⟨hr, h.be.grown hg h.be.size (by simp), blk_kept h.xx hg (by have := h.ge; simp; omega), h.ow.kept hg (own_ne h.ow (by omega)), h.ap, h.ge⟩
theorem InV.setx {s w xb w' st xa v l} (h : InV s w xb w' st xa v l) (o : Nat) (u : Value) : InV s w xb (w'.setCell ⟨xb, o, none⟩ u) st (xa.setIfInBounds o u) v l :=
  ⟨h.rd.set_other (by have := h.ge; omega) _ _, h.be.setCell (by have := h.ge; show _ ≤ xb; omega) _, blk_set h.xx _ _, h.ow.kept (grown_set w' xb o u) (Or.inr h.ap), h.ap, h.ge⟩
theorem InV.app {s w xb w' w'' st xa v v' l y o} (h : InV s w xb w' st xa v l) (ho : w''.ownsRow (w.heap.size + 1) 65 4 v' (l.length + 1) (evtsCells l ++ evtCells y)) (hg : (w'.alloc o).grownBy w'' v.ownBlock) :
    Rd 95 s w.heap.size st w'' ∧ Below w.heap.size w w'' ∧ w''.ownsRow (w.heap.size + 1) 65 4 v' (l ++ [y]).length (evtsCells (l ++ [y])) := by
  have hb := h.be.grown (grown_alloc w' o none) h.be.size (by simp)
  refine ⟨(h.rd.kept (grown_alloc w' o none) (by simp)).kept hg (fun e => by have := (h.ow.lt _ e.symm).1; omega), hb.grown hg hb.size (fun k e => by have := (h.ow.lt k e).1; omega), ?_⟩
  rw [evtsCells_snoc, List.length_append]; exact ho

set_option maxRecDepth 100000 in
set_option maxHeartbeats 8000000 in
theorem events_any (s : ByteArray) (w : World) (hs : s.size ≤ 10000000) :
    Calls Tryd.prog 29 #[.string s] w fun e w' => Below w.heap.size w w' ∧ ∃ v, e = .returned (.tuple #[v, .bool (!(Hx.evsF s).1.bad)]) ∧ w'.ownsRow (w.heap.size + 1) 65 4 v (Hx.evsF s).2.length (evtsCells (Hx.evsF s).2) ∧ (Hx.evsF s).2.length ≤ 10000001 := by
  have hs1 : s.size ≤ 10000000 := by omega
  obtain ⟨i0, hi, hz0, hz1, hz2⟩ := info_parts Tryd.infoEvt
  have HI := hide hi
  have HZ0 := hide hz0
  have HZ1 := hide hz1
  have HZ2 := hide hz2
  clear hi hz0 hz1 hz2
  go_enter Tryd.func29, Tryd.ntmps29
  go_wp2_with fail
  have HR0 : Hid (Rd 95 s w.heap.size ⟨0, false⟩ _) := blk_new w #[.string s, .int .i64 0, .bool false] 95
  have HB0 := hide ((Below.refl w.heap.size w).alloc (Nat.le_refl _) (.cells #[.string s, .int .i64 0, .bool false] 95))
  go_loopg [5] (Hx.mT s ⟨0, false⟩) (fun gk lv wr => ∃ (st : Hx.St) (acc : List Hx.Evt), st.pos ≤ s.size ∧ gk = Hx.mT s st ∧ acc.length ≤ s.size + 1 ∧ (st.bad = false → acc.length ≤ st.pos) ∧ Rd 95 s w.heap.size st wr ∧ Below w.heap.size w wr ∧ wr.ownsRow (w.heap.size + 1) 65 4 lv acc.length (evtsCells acc) ∧ Hx.evAll s st acc = Hx.evsF s)
  case atStart => exact ⟨_, [], Nat.zero_le _, rfl, by simp, by simp, unhide HR0, unhide HB0, World.ownsRow_nil _ _ _ _, rfl⟩
  case round =>
    clear HR0 HB0
    obtain ⟨st, acc, hpos, rfl, hacc, hacc2, hrd, hbe, hown, hfin⟩ := hrel
    obtain ⟨ao, cap, rfl⟩ := own_form hown
    have c1 := hrd.c1
    have c2 := hrd.c2
    have HRD := hide hrd
    have HBE := hide hbe
    have HOWN := hide hown
    have HFIN := hide hfin
    clear hrd hbe hown hfin
    by_cases hgo : st.bad = false ∧ st.pos < s.size
    · obtain ⟨pos, bad⟩ := st
      simp only at hgo c1 c2 hpos hacc2
      obtain ⟨rfl, hlt⟩ := hgo
      have hacc3 := hacc2 rfl
      have hltI : (pos : Int) < (s.size : Int) := by omega
      have HMT := hide (Hx.evm_lt (s := s) (n := acc.length) (st := ⟨pos, false⟩) rfl hlt)
      have HGT := hide (Hx.evStep_gt (s := s) (n := acc.length) (st := ⟨pos, false⟩))
      have HFIN2 := hide ((Hx.evAll_more (s := s) (st := ⟨pos, false⟩) (acc := acc) rfl hlt).symm.trans (unhide HFIN))
      clear hacc2 HFIN
      have hxge : w.heap.size + 1 ≤ wr.heap.size := Rd.lt (unhide HRD)
      by_cases hn : acc.length = 0
      · skip
        have hnI : ¬ (0 : Int) < (acc.length : Int) := by omega
        have HPR : Hid (Hx.evPre s acc.length ⟨pos, false⟩ = ⟨pos, false⟩) := by show _ = _; rw [Hx.evPre, if_pos hn]
        have HN := hide hn
        clear hn
        go_wp2_with fail
        have IN0 : Hid (InV s w wr.heap.size _ _ _ (.slice ao acc.length cap) acc) := ⟨(unhide HRD).kept (grown_alloc wr (.cells #[.int .i64 0, .int .i64 0, .int .i64 0, .int .i64 (-1)] 65) none) (by simp), (unhide HBE).grown (grown_alloc wr _ none) (unhide HBE).size (by simp), blk_new wr _ _, (unhide HOWN).alloc _, fun e => by have := ((unhide HOWN).lt _ e).2; omega, hxge⟩
        clear HRD HBE HOWN c1 c2
        obtain ⟨xb, hxb⟩ : ∃ xb, xb = wr.heap.size := ⟨_, rfl⟩
        rw [← hxb] at IN0 hxge ⊢
        clear hxb
        obtain ⟨t9, hE⟩ : ∃ t, t = (⟨pos, false⟩ : Hx.St) := ⟨_, rfl⟩
        rw [← hE] at IN0
        have P9 : t9.pos ≤ s.size := by rw [hE]; exact hpos
        have HPR2 : Hid (Hx.evPre s acc.length ⟨pos, false⟩ = t9) := by show _ = _; rw [hE]; exact unhide HPR
        clear HPR
        have HPR := HPR2
        have E9 := hide hE
        clear hE HPR2
        refine (scname_any s _ t9 _ hs1 P9 (unhide IN0).rd).mono ?_
        rintro e w11 ⟨rfl, hr, hg⟩
        have J11 := hide ((unhide IN0).call hr hg)
        have hP := Hx.scName_le (s := s) (st := t9) P9
        obtain ⟨r, hE⟩ : ∃ t, t = Hx.scName s t9 := ⟨_, rfl⟩
        rw [← hE] at J11 hP ⊢
        obtain ⟨⟨v11a, v11b⟩, t11⟩ := r
        simp only at J11 hP ⊢
        have P11 : t11.pos ≤ s.size := hP
        have E11 := hide hE
        have xo : w11.cell? ⟨xb, 0, none⟩ = some (.int .i64 0) := blk_cell (unhide J11).xx 0
        have xo1 : w11.cell? ⟨xb, 1, none⟩ = some (.int .i64 0) := blk_cell (unhide J11).xx 1
        have xf := blk_free (unhide J11).xx
        clear hr hg hE hP IN0
        go_wp2_with fail
        have I11 : Hid (InV s w xb _ _ #[.int .i64 (v11a : Int), .int .i64 (v11b : Int), .int .i64 0, .int .i64 (-1)] _ _) := ((unhide J11).setx 0 (.int .i64 (v11a : Int))).setx 1 (.int .i64 (v11b : Int))
        clear J11 xo xo1 xf
        refine (scmust_any s _ t11 _ 58 _ hs1 P11 rfl (by omega) (unhide I11).rd).mono ?_
        rintro e w12 ⟨rfl, hr, hg⟩
        have I12 := hide ((unhide I11).call hr hg)
        obtain ⟨t12, hE⟩ : ∃ t, t = Hx.scMust s 58 t11 := ⟨_, rfl⟩
        have P12 : t12.pos ≤ s.size := by rw [hE]; exact Hx.scMust_le (by omega) P11
        rw [← hE] at I12
        have E12 := hide hE
        clear hr hg hE I11
        go_wp2_with fail
        refine (scnum_any s _ t12 _ hs1 P12 (unhide I12).rd).mono ?_
        rintro e w13 ⟨rfl, hr, hg⟩
        have J13 := hide ((unhide I12).call hr hg)
        have hP := Hx.scNum_le (s := s) (st := t12) P12
        obtain ⟨r, hE⟩ : ∃ t, t = Hx.scNum s t12 := ⟨_, rfl⟩
        rw [← hE] at J13 hP ⊢
        obtain ⟨v13, t13⟩ := r
        simp only at J13 hP ⊢
        have P13 : t13.pos ≤ s.size := hP
        have E13 := hide hE
        have xo : w13.cell? ⟨xb, 2, none⟩ = some (.int .i64 0) := blk_cell (unhide J13).xx 2
        have xf := blk_free (unhide J13).xx
        clear hr hg hE hP I12
        go_wp2_with fail
        have I13 : Hid (InV s w xb _ _ #[.int .i64 (v11a : Int), .int .i64 (v11b : Int), .int .i64 (v13 : Int), .int .i64 (-1)] _ _) := (unhide J13).setx 2 (.int .i64 (v13 : Int))
        clear J13 xo xf
        refine (scmust_any s _ t13 _ 45 _ hs1 P13 rfl (by omega) (unhide I13).rd).mono ?_
        rintro e w14 ⟨rfl, hr, hg⟩
        have I14 := hide ((unhide I13).call hr hg)
        obtain ⟨t14, hE⟩ : ∃ t, t = Hx.scMust s 45 t13 := ⟨_, rfl⟩
        have P14 : t14.pos ≤ s.size := by rw [hE]; exact Hx.scMust_le (by omega) P13
        rw [← hE] at I14
        have E14 := hide hE
        clear hr hg hE I13
        skip
        have HDA : Hid (Hx.evDash s acc.length ⟨pos, false⟩ = t14) := by
          show _ = _
          unfold Hx.evDash
          rw [unhide HPR, ← unhide E11]; dsimp only
          rw [← unhide E12, ← unhide E13]; dsimp only
          rw [← unhide E14]
        have HHE : Hid (∀ zz, Hx.evHead s acc.length ⟨pos, false⟩ zz = ⟨v11a, v11b, v13, zz⟩) := fun zz => by
          unfold Hx.evHead
          rw [unhide HPR, ← unhide E11]; dsimp only
          rw [← unhide E12, ← unhide E13]
        have HMO : Hid (Hx.evMore s acc.length ⟨pos, false⟩ ↔ (t14.pos < s.size ∧ Hx.byteAt s t14.pos ≠ 44)) := by
          show _ ↔ _
          unfold Hx.evMore
          rw [unhide HDA]
        clear E9 E11 E12 E13 E14 HPR
        have c0 := (unhide I14).rd.c0
        have c1 := (unhide I14).rd.c1
        by_cases hin : t14.pos < s.size
        · have hinI : (t14.pos : Int) < (s.size : Int) := by omega
          have hbI := Hx.byteAt_lt hin
          by_cases hb : Hx.byteAt s t14.pos = 44
          · have hbE : (((s[t14.pos]'hin).toNat : Int) != 44) = false := by rw [← hbI, hb]; rfl
            have hno : ¬ Hx.evMore s acc.length ⟨pos, false⟩ := fun g => ((unhide HMO).1 g).2 hb
            have HNO := hide hno
            clear hno hb hbI
            go_upto_region 13 with fail
            clear c0 c1
            have hT : Hx.evStep s acc.length ⟨pos, false⟩ = (⟨v11a, v11b, v13, -1⟩, t14) := by
              rw [Hx.evStep_none (unhide HNO), unhide HHE, unhide HDA]
            have HFIN3 : Hid (Hx.evAll s t14 (acc ++ [⟨v11a, v11b, v13, -1⟩]) = Hx.evsF s) := by
              have h := unhide HFIN2
              rw [hT] at h
              exact h
            have hMT : Hx.mT s t14 < Hx.mT s ⟨pos, false⟩ := by have h := unhide HMT; rw [hT] at h; exact h
            have hGT : (t14 : Hx.St).bad = false → pos < (t14 : Hx.St).pos := by have h := unhide HGT; rw [hT] at h; exact h
            have HMT2 := hide hMT
            have HGT2 := hide hGT
            clear hT hMT hGT HFIN2 HDA HHE HMO
            have x0 : w14.cell? ⟨xb, 0, none⟩ = some (.int .i64 (v11a : Int)) := blk_cell (unhide I14).xx 0
            have x1 : w14.cell? ⟨xb, 1, none⟩ = some (.int .i64 (v11b : Int)) := blk_cell (unhide I14).xx 1
            have x2 : w14.cell? ⟨xb, 2, none⟩ = some (.int .i64 (v13 : Int)) := blk_cell (unhide I14).xx 2
            have x3 : w14.cell? ⟨xb, 3, none⟩ = some (.int .i64 (-1)) := blk_cell (unhide I14).xx 3
            have hszw : w.heap.size + 1 ≤ w14.heap.size := Rd.lt (unhide I14).rd
            go_wp2_with (at_builtin; refine wpList_append_own _ rfl _ _ 61 rfl (w.heap.size + 1) 65 i0 (.agg #[.int .i64 0, .int .i64 0, .int .i64 0, .int .i64 0]) 4 32 Tryd.underlying61 (unhide HI) (unhide HZ0) (unhide HZ1) (unhide HZ2) rfl (by decide) _ _ _ rfl ((unhide I14).ow.alloc _) ⟨w14.heap.size, 0, none⟩ 1 1 (evtCells ⟨v11a, v11b, v13, -1⟩) rfl rfl (news_new w14 (evtCells ⟨v11a, v11b, v13, -1⟩) 65) (evtCells_one _) (by unfold maxLen; omega) (by omega) (by simp; omega) ?_; intro v' w90 hown' hgrow' _; obtain ⟨ao3, cap3, rfl⟩ := own_form hown'; have K9 := hide ((unhide I14).app (o := .cells (evtCells ⟨v11a, v11b, v13, -1⟩).toArray 65) hown' hgrow'); clear hown' hgrow')
            go_roundg (Hx.mT s t14)
            case measure => exact unhide HMT2
            case rel =>
              refine ⟨t14, acc ++ [⟨v11a, v11b, v13, -1⟩], P14, rfl, by rw [List.length_append]; show acc.length + 1 ≤ s.size + 1; omega, fun hb => ?_, (unhide K9).1, (unhide K9).2.1, (unhide K9).2.2, unhide HFIN3⟩
              have := unhide HGT2 hb
              rw [List.length_append]; show acc.length + 1 ≤ _; omega
          · have hbE : (((s[t14.pos]'hin).toNat : Int) != 44) = true := by rw [← hbI]; simp; omega
            have hyes : Hx.evMore s acc.length ⟨pos, false⟩ := (unhide HMO).2 ⟨hin, hb⟩
            have HYES := hide hyes
            clear hyes hb hbI
            go_wp2_with fail
            clear c0 c1
            refine (scnum_any s _ t14 _ hs1 P14 (unhide I14).rd).mono ?_
            rintro e w15 ⟨rfl, hr, hg⟩
            have J15 := hide ((unhide I14).call hr hg)
            have hP := Hx.scNum_le (s := s) (st := t14) P14
            obtain ⟨r, hE⟩ : ∃ t, t = Hx.scNum s t14 := ⟨_, rfl⟩
            rw [← hE] at J15 hP ⊢
            obtain ⟨v15, t15⟩ := r
            simp only at J15 hP ⊢
            have P15 : t15.pos ≤ s.size := hP
            have E15 := hide hE
            have xo : w15.cell? ⟨xb, 3, none⟩ = some (.int .i64 (-1)) := blk_cell (unhide J15).xx 3
            have xf := blk_free (unhide J15).xx
            clear hr hg hE hP I14
            go_upto_region 13 with fail
            have I15 : Hid (InV s w xb _ _ #[.int .i64 (v11a : Int), .int .i64 (v11b : Int), .int .i64 (v13 : Int), .int .i64 (v15 : Int)] _ _) := (unhide J15).setx 3 (.int .i64 (v15 : Int))
            clear J15 xo xf
            generalize w15.setCell ⟨xb, 3, none⟩ (.int .i64 (v15 : Int)) = w80 at I15 ⊢
            have hT : Hx.evStep s acc.length ⟨pos, false⟩ = (⟨v11a, v11b, v13, (v15 : Int)⟩, t15) := by
              rw [Hx.evStep_more (unhide HYES), unhide HHE, unhide HDA, ← unhide E15]
            have HFIN3 : Hid (Hx.evAll s t15 (acc ++ [⟨v11a, v11b, v13, (v15 : Int)⟩]) = Hx.evsF s) := by
              have h := unhide HFIN2
              rw [hT] at h
              exact h
            have hMT : Hx.mT s t15 < Hx.mT s ⟨pos, false⟩ := by have h := unhide HMT; rw [hT] at h; exact h
            have hGT : (t15 : Hx.St).bad = false → pos < (t15 : Hx.St).pos := by have h := unhide HGT; rw [hT] at h; exact h
            have HMT2 := hide hMT
            have HGT2 := hide hGT
            clear hT hMT hGT HFIN2 HDA HHE HMO
            have x0 : w80.cell? ⟨xb, 0, none⟩ = some (.int .i64 (v11a : Int)) := blk_cell (unhide I15).xx 0
            have x1 : w80.cell? ⟨xb, 1, none⟩ = some (.int .i64 (v11b : Int)) := blk_cell (unhide I15).xx 1
            have x2 : w80.cell? ⟨xb, 2, none⟩ = some (.int .i64 (v13 : Int)) := blk_cell (unhide I15).xx 2
            have x3 : w80.cell? ⟨xb, 3, none⟩ = some (.int .i64 (v15 : Int)) := blk_cell (unhide I15).xx 3
            have hszw : w.heap.size + 1 ≤ w80.heap.size := Rd.lt (unhide I15).rd
            go_wp2_with (at_builtin; refine wpList_append_own _ rfl _ _ 61 rfl (w.heap.size + 1) 65 i0 (.agg #[.int .i64 0, .int .i64 0, .int .i64 0, .int .i64 0]) 4 32 Tryd.underlying61 (unhide HI) (unhide HZ0) (unhide HZ1) (unhide HZ2) rfl (by decide) _ _ _ rfl ((unhide I15).ow.alloc _) ⟨w80.heap.size, 0, none⟩ 1 1 (evtCells ⟨v11a, v11b, v13, (v15 : Int)⟩) rfl rfl (news_new w80 (evtCells ⟨v11a, v11b, v13, (v15 : Int)⟩) 65) (evtCells_one _) (by unfold maxLen; omega) (by omega) (by simp; omega) ?_; intro v' w90 hown' hgrow' _; obtain ⟨ao3, cap3, rfl⟩ := own_form hown'; have K9 := hide ((unhide I15).app (o := .cells (evtCells ⟨v11a, v11b, v13, (v15 : Int)⟩).toArray 65) hown' hgrow'); clear hown' hgrow')
            go_roundg (Hx.mT s t15)
            case measure => exact unhide HMT2
            case rel =>
              refine ⟨t15, acc ++ [⟨v11a, v11b, v13, (v15 : Int)⟩], P15, rfl, by rw [List.length_append]; show acc.length + 1 ≤ s.size + 1; omega, fun hb => ?_, (unhide K9).1, (unhide K9).2.1, (unhide K9).2.2, unhide HFIN3⟩
              have := unhide HGT2 hb
              rw [List.length_append]; show acc.length + 1 ≤ _; omega
        · have hinI : ¬ (t14.pos : Int) < (s.size : Int) := by omega
          have hno : ¬ Hx.evMore s acc.length ⟨pos, false⟩ := fun g => hin ((unhide HMO).1 g).1
          have HNO := hide hno
          clear hno
          go_upto_region 13 with fail
          clear c0 c1
          have hT : Hx.evStep s acc.length ⟨pos, false⟩ = (⟨v11a, v11b, v13, -1⟩, t14) := by
            rw [Hx.evStep_none (unhide HNO), unhide HHE, unhide HDA]
          have HFIN3 : Hid (Hx.evAll s t14 (acc ++ [⟨v11a, v11b, v13, -1⟩]) = Hx.evsF s) := by
            have h := unhide HFIN2
            rw [hT] at h
            exact h
          have hMT : Hx.mT s t14 < Hx.mT s ⟨pos, false⟩ := by have h := unhide HMT; rw [hT] at h; exact h
          have hGT : (t14 : Hx.St).bad = false → pos < (t14 : Hx.St).pos := by have h := unhide HGT; rw [hT] at h; exact h
          have HMT2 := hide hMT
          have HGT2 := hide hGT
          clear hT hMT hGT HFIN2 HDA HHE HMO
          have x0 : w14.cell? ⟨xb, 0, none⟩ = some (.int .i64 (v11a : Int)) := blk_cell (unhide I14).xx 0
          have x1 : w14.cell? ⟨xb, 1, none⟩ = some (.int .i64 (v11b : Int)) := blk_cell (unhide I14).xx 1
          have x2 : w14.cell? ⟨xb, 2, none⟩ = some (.int .i64 (v13 : Int)) := blk_cell (unhide I14).xx 2
          have x3 : w14.cell? ⟨xb, 3, none⟩ = some (.int .i64 (-1)) := blk_cell (unhide I14).xx 3
          have hszw : w.heap.size + 1 ≤ w14.heap.size := Rd.lt (unhide I14).rd
          go_wp2_with (at_builtin; refine wpList_append_own _ rfl _ _ 61 rfl (w.heap.size + 1) 65 i0 (.agg #[.int .i64 0, .int .i64 0, .int .i64 0, .int .i64 0]) 4 32 Tryd.underlying61 (unhide HI) (unhide HZ0) (unhide HZ1) (unhide HZ2) rfl (by decide) _ _ _ rfl ((unhide I14).ow.alloc _) ⟨w14.heap.size, 0, none⟩ 1 1 (evtCells ⟨v11a, v11b, v13, -1⟩) rfl rfl (news_new w14 (evtCells ⟨v11a, v11b, v13, -1⟩) 65) (evtCells_one _) (by unfold maxLen; omega) (by omega) (by simp; omega) ?_; intro v' w90 hown' hgrow' _; obtain ⟨ao3, cap3, rfl⟩ := own_form hown'; have K9 := hide ((unhide I14).app (o := .cells (evtCells ⟨v11a, v11b, v13, -1⟩).toArray 65) hown' hgrow'); clear hown' hgrow')
          go_roundg (Hx.mT s t14)
          case measure => exact unhide HMT2
          case rel =>
            refine ⟨t14, acc ++ [⟨v11a, v11b, v13, -1⟩], P14, rfl, by rw [List.length_append]; show acc.length + 1 ≤ s.size + 1; omega, fun hb => ?_, (unhide K9).1, (unhide K9).2.1, (unhide K9).2.2, unhide HFIN3⟩
            have := unhide HGT2 hb
            rw [List.length_append]; show acc.length + 1 ≤ _; omega
      · skip
        have hnI : (0 : Int) < (acc.length : Int) := by omega
        have HPR : Hid (Hx.evPre s acc.length ⟨pos, false⟩ = Hx.scMust s 44 ⟨pos, false⟩) := by show _ = _; rw [Hx.evPre, if_neg hn]
        have HN := hide hn
        clear hn
        go_wp2_with fail
        refine (scmust_any s _ ⟨pos, false⟩ _ 44 _ hs1 hpos rfl (by omega) (unhide HRD)).mono ?_
        rintro e w9 ⟨rfl, hr, hg⟩
        have HRD9 := hide hr
        have HBE9 := hide ((unhide HBE).grown hg (unhide HBE).size (by simp))
        have HOW9 := hide ((unhide HOWN).kept hg (own_ne (unhide HOWN) (by omega)))
        have hxg9 : w.heap.size + 1 ≤ w9.heap.size := Rd.lt hr
        obtain ⟨t9, hE⟩ : ∃ t, t = Hx.scMust s 44 ⟨pos, false⟩ := ⟨_, rfl⟩
        have P9 : t9.pos ≤ s.size := by rw [hE]; exact Hx.scMust_le (by omega) hpos
        rw [← hE] at HRD9 HPR
        have E9 := hide hE
        clear hr hg hE HRD HBE HOWN hxge c1 c2
        go_wp2_with fail
        have IN0 : Hid (InV s w w9.heap.size _ _ _ (.slice ao acc.length cap) acc) := ⟨(unhide HRD9).kept (grown_alloc w9 (.cells #[.int .i64 0, .int .i64 0, .int .i64 0, .int .i64 (-1)] 65) none) (by simp), (unhide HBE9).grown (grown_alloc w9 _ none) (unhide HBE9).size (by simp), blk_new w9 _ _, (unhide HOW9).alloc _, fun e => by have := ((unhide HOW9).lt _ e).2; omega, hxg9⟩
        clear HRD9 HBE9 HOW9
        obtain ⟨xb, hxb⟩ : ∃ xb, xb = w9.heap.size := ⟨_, rfl⟩
        rw [← hxb] at IN0 hxg9 ⊢
        clear hxb
        refine (scname_any s _ t9 _ hs1 P9 (unhide IN0).rd).mono ?_
        rintro e w11 ⟨rfl, hr, hg⟩
        have J11 := hide ((unhide IN0).call hr hg)
        have hP := Hx.scName_le (s := s) (st := t9) P9
        obtain ⟨r, hE⟩ : ∃ t, t = Hx.scName s t9 := ⟨_, rfl⟩
        rw [← hE] at J11 hP ⊢
        obtain ⟨⟨v11a, v11b⟩, t11⟩ := r
        simp only at J11 hP ⊢
        have P11 : t11.pos ≤ s.size := hP
        have E11 := hide hE
        have xo : w11.cell? ⟨xb, 0, none⟩ = some (.int .i64 0) := blk_cell (unhide J11).xx 0
        have xo1 : w11.cell? ⟨xb, 1, none⟩ = some (.int .i64 0) := blk_cell (unhide J11).xx 1
        have xf := blk_free (unhide J11).xx
        clear hr hg hE hP IN0
        go_wp2_with fail
        have I11 : Hid (InV s w xb _ _ #[.int .i64 (v11a : Int), .int .i64 (v11b : Int), .int .i64 0, .int .i64 (-1)] _ _) := ((unhide J11).setx 0 (.int .i64 (v11a : Int))).setx 1 (.int .i64 (v11b : Int))
        clear J11 xo xo1 xf
        refine (scmust_any s _ t11 _ 58 _ hs1 P11 rfl (by omega) (unhide I11).rd).mono ?_
        rintro e w12 ⟨rfl, hr, hg⟩
        have I12 := hide ((unhide I11).call hr hg)
        obtain ⟨t12, hE⟩ : ∃ t, t = Hx.scMust s 58 t11 := ⟨_, rfl⟩
        have P12 : t12.pos ≤ s.size := by rw [hE]; exact Hx.scMust_le (by omega) P11
        rw [← hE] at I12
        have E12 := hide hE
        clear hr hg hE I11
        go_wp2_with fail
        refine (scnum_any s _ t12 _ hs1 P12 (unhide I12).rd).mono ?_
        rintro e w13 ⟨rfl, hr, hg⟩
        have J13 := hide ((unhide I12).call hr hg)
        have hP := Hx.scNum_le (s := s) (st := t12) P12
        obtain ⟨r, hE⟩ : ∃ t, t = Hx.scNum s t12 := ⟨_, rfl⟩
        rw [← hE] at J13 hP ⊢
        obtain ⟨v13, t13⟩ := r
        simp only at J13 hP ⊢
        have P13 : t13.pos ≤ s.size := hP
        have E13 := hide hE
        have xo : w13.cell? ⟨xb, 2, none⟩ = some (.int .i64 0) := blk_cell (unhide J13).xx 2
        have xf := blk_free (unhide J13).xx
        clear hr hg hE hP I12
        go_wp2_with fail
        have I13 : Hid (InV s w xb _ _ #[.int .i64 (v11a : Int), .int .i64 (v11b : Int), .int .i64 (v13 : Int), .int .i64 (-1)] _ _) := (unhide J13).setx 2 (.int .i64 (v13 : Int))
        clear J13 xo xf
        refine (scmust_any s _ t13 _ 45 _ hs1 P13 rfl (by omega) (unhide I13).rd).mono ?_
        rintro e w14 ⟨rfl, hr, hg⟩
        have I14 := hide ((unhide I13).call hr hg)
        obtain ⟨t14, hE⟩ : ∃ t, t = Hx.scMust s 45 t13 := ⟨_, rfl⟩
        have P14 : t14.pos ≤ s.size := by rw [hE]; exact Hx.scMust_le (by omega) P13
        rw [← hE] at I14
        have E14 := hide hE
        clear hr hg hE I13
        skip
        have HDA : Hid (Hx.evDash s acc.length ⟨pos, false⟩ = t14) := by
          show _ = _
          unfold Hx.evDash
          rw [unhide HPR, ← unhide E11]; dsimp only
          rw [← unhide E12, ← unhide E13]; dsimp only
          rw [← unhide E14]
        have HHE : Hid (∀ zz, Hx.evHead s acc.length ⟨pos, false⟩ zz = ⟨v11a, v11b, v13, zz⟩) := fun zz => by
          unfold Hx.evHead
          rw [unhide HPR, ← unhide E11]; dsimp only
          rw [← unhide E12, ← unhide E13]
        have HMO : Hid (Hx.evMore s acc.length ⟨pos, false⟩ ↔ (t14.pos < s.size ∧ Hx.byteAt s t14.pos ≠ 44)) := by
          show _ ↔ _
          unfold Hx.evMore
          rw [unhide HDA]
        clear E9 E11 E12 E13 E14 HPR
        have c0 := (unhide I14).rd.c0
        have c1 := (unhide I14).rd.c1
        by_cases hin : t14.pos < s.size
        · have hinI : (t14.pos : Int) < (s.size : Int) := by omega
          have hbI := Hx.byteAt_lt hin
          by_cases hb : Hx.byteAt s t14.pos = 44
          · have hbE : (((s[t14.pos]'hin).toNat : Int) != 44) = false := by rw [← hbI, hb]; rfl
            have hno : ¬ Hx.evMore s acc.length ⟨pos, false⟩ := fun g => ((unhide HMO).1 g).2 hb
            have HNO := hide hno
            clear hno hb hbI
            go_upto_region 13 with fail
            clear c0 c1
            have hT : Hx.evStep s acc.length ⟨pos, false⟩ = (⟨v11a, v11b, v13, -1⟩, t14) := by
              rw [Hx.evStep_none (unhide HNO), unhide HHE, unhide HDA]
            have HFIN3 : Hid (Hx.evAll s t14 (acc ++ [⟨v11a, v11b, v13, -1⟩]) = Hx.evsF s) := by
              have h := unhide HFIN2
              rw [hT] at h
              exact h
            have hMT : Hx.mT s t14 < Hx.mT s ⟨pos, false⟩ := by have h := unhide HMT; rw [hT] at h; exact h
            have hGT : (t14 : Hx.St).bad = false → pos < (t14 : Hx.St).pos := by have h := unhide HGT; rw [hT] at h; exact h
            have HMT2 := hide hMT
            have HGT2 := hide hGT
            clear hT hMT hGT HFIN2 HDA HHE HMO
            have x0 : w14.cell? ⟨xb, 0, none⟩ = some (.int .i64 (v11a : Int)) := blk_cell (unhide I14).xx 0
            have x1 : w14.cell? ⟨xb, 1, none⟩ = some (.int .i64 (v11b : Int)) := blk_cell (unhide I14).xx 1
            have x2 : w14.cell? ⟨xb, 2, none⟩ = some (.int .i64 (v13 : Int)) := blk_cell (unhide I14).xx 2
            have x3 : w14.cell? ⟨xb, 3, none⟩ = some (.int .i64 (-1)) := blk_cell (unhide I14).xx 3
            have hszw : w.heap.size + 1 ≤ w14.heap.size := Rd.lt (unhide I14).rd
            go_wp2_with (at_builtin; refine wpList_append_own _ rfl _ _ 61 rfl (w.heap.size + 1) 65 i0 (.agg #[.int .i64 0, .int .i64 0, .int .i64 0, .int .i64 0]) 4 32 Tryd.underlying61 (unhide HI) (unhide HZ0) (unhide HZ1) (unhide HZ2) rfl (by decide) _ _ _ rfl ((unhide I14).ow.alloc _) ⟨w14.heap.size, 0, none⟩ 1 1 (evtCells ⟨v11a, v11b, v13, -1⟩) rfl rfl (news_new w14 (evtCells ⟨v11a, v11b, v13, -1⟩) 65) (evtCells_one _) (by unfold maxLen; omega) (by omega) (by simp; omega) ?_; intro v' w90 hown' hgrow' _; obtain ⟨ao3, cap3, rfl⟩ := own_form hown'; have K9 := hide ((unhide I14).app (o := .cells (evtCells ⟨v11a, v11b, v13, -1⟩).toArray 65) hown' hgrow'); clear hown' hgrow')
            go_roundg (Hx.mT s t14)
            case measure => exact unhide HMT2
            case rel =>
              refine ⟨t14, acc ++ [⟨v11a, v11b, v13, -1⟩], P14, rfl, by rw [List.length_append]; show acc.length + 1 ≤ s.size + 1; omega, fun hb => ?_, (unhide K9).1, (unhide K9).2.1, (unhide K9).2.2, unhide HFIN3⟩
              have := unhide HGT2 hb
              rw [List.length_append]; show acc.length + 1 ≤ _; omega
          · have hbE : (((s[t14.pos]'hin).toNat : Int) != 44) = true := by rw [← hbI]; simp; omega
            have hyes : Hx.evMore s acc.length ⟨pos, false⟩ := (unhide HMO).2 ⟨hin, hb⟩
            have HYES := hide hyes
            clear hyes hb hbI
            go_wp2_with fail
            clear c0 c1
            refine (scnum_any s _ t14 _ hs1 P14 (unhide I14).rd).mono ?_
            rintro e w15 ⟨rfl, hr, hg⟩
            have J15 := hide ((unhide I14).call hr hg)
            have hP := Hx.scNum_le (s := s) (st := t14) P14
            obtain ⟨r, hE⟩ : ∃ t, t = Hx.scNum s t14 := ⟨_, rfl⟩
            rw [← hE] at J15 hP ⊢
            obtain ⟨v15, t15⟩ := r
            simp only at J15 hP ⊢
            have P15 : t15.pos ≤ s.size := hP
            have E15 := hide hE
            have xo : w15.cell? ⟨xb, 3, none⟩ = some (.int .i64 (-1)) := blk_cell (unhide J15).xx 3
            have xf := blk_free (unhide J15).xx
            clear hr hg hE hP I14
            go_upto_region 13 with fail
            have I15 : Hid (InV s w xb _ _ #[.int .i64 (v11a : Int), .int .i64 (v11b : Int), .int .i64 (v13 : Int), .int .i64 (v15 : Int)] _ _) := (unhide J15).setx 3 (.int .i64 (v15 : Int))
            clear J15 xo xf
            generalize w15.setCell ⟨xb, 3, none⟩ (.int .i64 (v15 : Int)) = w80 at I15 ⊢
            have hT : Hx.evStep s acc.length ⟨pos, false⟩ = (⟨v11a, v11b, v13, (v15 : Int)⟩, t15) := by
              rw [Hx.evStep_more (unhide HYES), unhide HHE, unhide HDA, ← unhide E15]
            have HFIN3 : Hid (Hx.evAll s t15 (acc ++ [⟨v11a, v11b, v13, (v15 : Int)⟩]) = Hx.evsF s) := by
              have h := unhide HFIN2
              rw [hT] at h
              exact h
            have hMT : Hx.mT s t15 < Hx.mT s ⟨pos, false⟩ := by have h := unhide HMT; rw [hT] at h; exact h
            have hGT : (t15 : Hx.St).bad = false → pos < (t15 : Hx.St).pos := by have h := unhide HGT; rw [hT] at h; exact h
            have HMT2 := hide hMT
            have HGT2 := hide hGT
            clear hT hMT hGT HFIN2 HDA HHE HMO
            have x0 : w80.cell? ⟨xb, 0, none⟩ = some (.int .i64 (v11a : Int)) := blk_cell (unhide I15).xx 0
            have x1 : w80.cell? ⟨xb, 1, none⟩ = some (.int .i64 (v11b : Int)) := blk_cell (unhide I15).xx 1
            have x2 : w80.cell? ⟨xb, 2, none⟩ = some (.int .i64 (v13 : Int)) := blk_cell (unhide I15).xx 2
            have x3 : w80.cell? ⟨xb, 3, none⟩ = some (.int .i64 (v15 : Int)) := blk_cell (unhide I15).xx 3
            have hszw : w.heap.size + 1 ≤ w80.heap.size := Rd.lt (unhide I15).rd
            go_wp2_with (at_builtin; refine wpList_append_own _ rfl _ _ 61 rfl (w.heap.size + 1) 65 i0 (.agg #[.int .i64 0, .int .i64 0, .int .i64 0, .int .i64 0]) 4 32 Tryd.underlying61 (unhide HI) (unhide HZ0) (unhide HZ1) (unhide HZ2) rfl (by decide) _ _ _ rfl ((unhide I15).ow.alloc _) ⟨w80.heap.size, 0, none⟩ 1 1 (evtCells ⟨v11a, v11b, v13, (v15 : Int)⟩) rfl rfl (news_new w80 (evtCells ⟨v11a, v11b, v13, (v15 : Int)⟩) 65) (evtCells_one _) (by unfold maxLen; omega) (by omega) (by simp; omega) ?_; intro v' w90 hown' hgrow' _; obtain ⟨ao3, cap3, rfl⟩ := own_form hown'; have K9 := hide ((unhide I15).app (o := .cells (evtCells ⟨v11a, v11b, v13, (v15 : Int)⟩).toArray 65) hown' hgrow'); clear hown' hgrow')
            go_roundg (Hx.mT s t15)
            case measure => exact unhide HMT2
            case rel =>
              refine ⟨t15, acc ++ [⟨v11a, v11b, v13, (v15 : Int)⟩], P15, rfl, by rw [List.length_append]; show acc.length + 1 ≤ s.size + 1; omega, fun hb => ?_, (unhide K9).1, (unhide K9).2.1, (unhide K9).2.2, unhide HFIN3⟩
              have := unhide HGT2 hb
              rw [List.length_append]; show acc.length + 1 ≤ _; omega
        · have hinI : ¬ (t14.pos : Int) < (s.size : Int) := by omega
          have hno : ¬ Hx.evMore s acc.length ⟨pos, false⟩ := fun g => hin ((unhide HMO).1 g).1
          have HNO := hide hno
          clear hno
          go_upto_region 13 with fail
          clear c0 c1
          have hT : Hx.evStep s acc.length ⟨pos, false⟩ = (⟨v11a, v11b, v13, -1⟩, t14) := by
            rw [Hx.evStep_none (unhide HNO), unhide HHE, unhide HDA]
          have HFIN3 : Hid (Hx.evAll s t14 (acc ++ [⟨v11a, v11b, v13, -1⟩]) = Hx.evsF s) := by
            have h := unhide HFIN2
            rw [hT] at h
            exact h
          have hMT : Hx.mT s t14 < Hx.mT s ⟨pos, false⟩ := by have h := unhide HMT; rw [hT] at h; exact h
          have hGT : (t14 : Hx.St).bad = false → pos < (t14 : Hx.St).pos := by have h := unhide HGT; rw [hT] at h; exact h
          have HMT2 := hide hMT
          have HGT2 := hide hGT
          clear hT hMT hGT HFIN2 HDA HHE HMO
          have x0 : w14.cell? ⟨xb, 0, none⟩ = some (.int .i64 (v11a : Int)) := blk_cell (unhide I14).xx 0
          have x1 : w14.cell? ⟨xb, 1, none⟩ = some (.int .i64 (v11b : Int)) := blk_cell (unhide I14).xx 1
          have x2 : w14.cell? ⟨xb, 2, none⟩ = some (.int .i64 (v13 : Int)) := blk_cell (unhide I14).xx 2
          have x3 : w14.cell? ⟨xb, 3, none⟩ = some (.int .i64 (-1)) := blk_cell (unhide I14).xx 3
          have hszw : w.heap.size + 1 ≤ w14.heap.size := Rd.lt (unhide I14).rd
          go_wp2_with (at_builtin; refine wpList_append_own _ rfl _ _ 61 rfl (w.heap.size + 1) 65 i0 (.agg #[.int .i64 0, .int .i64 0, .int .i64 0, .int .i64 0]) 4 32 Tryd.underlying61 (unhide HI) (unhide HZ0) (unhide HZ1) (unhide HZ2) rfl (by decide) _ _ _ rfl ((unhide I14).ow.alloc _) ⟨w14.heap.size, 0, none⟩ 1 1 (evtCells ⟨v11a, v11b, v13, -1⟩) rfl rfl (news_new w14 (evtCells ⟨v11a, v11b, v13, -1⟩) 65) (evtCells_one _) (by unfold maxLen; omega) (by omega) (by simp; omega) ?_; intro v' w90 hown' hgrow' _; obtain ⟨ao3, cap3, rfl⟩ := own_form hown'; have K9 := hide ((unhide I14).app (o := .cells (evtCells ⟨v11a, v11b, v13, -1⟩).toArray 65) hown' hgrow'); clear hown' hgrow')
          go_roundg (Hx.mT s t14)
          case measure => exact unhide HMT2
          case rel =>
            refine ⟨t14, acc ++ [⟨v11a, v11b, v13, -1⟩], P14, rfl, by rw [List.length_append]; show acc.length + 1 ≤ s.size + 1; omega, fun hb => ?_, (unhide K9).1, (unhide K9).2.1, (unhide K9).2.2, unhide HFIN3⟩
            have := unhide HGT2 hb
            rw [List.length_append]; show acc.length + 1 ≤ _; omega
    · have HEND := hide ((Hx.evAll_end (acc := acc) hgo).symm.trans (unhide HFIN))
      obtain ⟨pos, bad⟩ := st
      simp only at hgo c1 c2 hpos hacc2
      cases bad
      · have hge : ¬ (pos : Int) < (s.size : Int) := by simp at hgo; omega
        clear hgo HFIN
        go_wp2_with fail
        go_quiet (fail)
        go_wp2_with fail
        go_returns
        rw [← unhide HEND]
        exact ⟨below_drewN (unhide HBE) _, _, rfl, (unhide HOWN).kept (grown_drewN _ _ (some 0)) (own_ne (unhide HOWN) (by omega)), by show acc.length ≤ 10000001; omega⟩
      · clear hgo HFIN
        go_wp2_with fail
        go_quiet (fail)
        go_wp2_with fail
        go_returns
        rw [← unhide HEND]
        exact ⟨below_drewN (unhide HBE) _, _, rfl, (unhide HOWN).kept (grown_drewN _ _ (some 0)) (own_ne (unhide HOWN) (by omega)), by show acc.length ≤ 10000001; omega⟩

end Go.Proofs.YtppcnlkhdgmaiaaDoor
