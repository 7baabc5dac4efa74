/- The plain mathematics of what Plan tells: it has each step of the plan once. The plain mathematics of what Plan tells: its times hold whatever the clock and the steps do. The plain mathematics of Kept: what Plan answers of a plan's text, by whether a rest is hopeless. The plain mathematics of Best: how many orders there are; an order that is drawn is one of them; its earliest times; none is over earlier than the best. -/
import Derived.Test.YtppcnlkhdgmaiaaDoorCKdW
namespace Go.Proofs.YtppcnlkhdgmaiaaDoor
namespace Hx

theorem labs_idx {ps : List (List Stp)} {i : Nat} {y : Lst} (h : (labs ps)[i]? = some y) : i = offP ps y.pl + y.no := by
  obtain ⟨p, n, q, x, hq, hx, rfl⟩ := labs_inv (getElem?_lt h)
  rw [labs_at hq hx] at h
  cases h
  rfl
theorem Tm.whole {J K D ps o f} (h : Tm J K D ps o f) (hs : GoodS ps) : WholeP (labs ps) (ttab ps o f) := by
  refine ⟨by rw [ttab_len, h.len], fun k z hz => ?_, fun k z hz => ?_, fun i j y z hy hz e1 e2 => ?_⟩
  · have hk : k < o.length := by have := getElem?_lt hz; rw [ttab_len] at this; exact this
    obtain ⟨r, nx, p, q, x, hat⟩ := h.at hk
    rw [hat.row f] at hz
    cases hz
    obtain ⟨a1, _⟩ := good_len h.good hat.hq hat.hx
    refine ⟨a1, ?_⟩
    show nx p = (holdF ((ttab ps o f).take k) p).2
    rw [h.hold k (by omega) r nx hat.e p]
  · have hk : k < o.length := by have := getElem?_lt hz; rw [ttab_len] at this; exact this
    obtain ⟨r, nx, p, q, x, hat⟩ := h.at hk
    rw [hat.row f] at hz
    cases hz
    have hn := (hs.stp q (List.mem_of_getElem? hat.hq) x (List.mem_of_getElem? hat.hx)).2.2.2.2.2.2.2
    have hp := getElem?_lt hat.hq
    obtain ⟨u1, _⟩ := under_bump hat.tat
    refine ⟨offP ps p + nx p, ⟨p, nx p, x⟩, labs_at hat.hq hat.hx, rfl, rfl, rfl, rfl, ?_, ?_, ?_⟩
    · show x.mn = if x.rest then x.mn else 0
      cases hr : x.rest
      · exact (hn hr).1
      · rfl
    · show x.mx = if x.rest then x.mx else 0
      cases hr : x.rest
      · exact (hn hr).2
      · rfl
    · show x.rest = decide (0 ≤ (if x.rest then (stAt ps (o.take k)).getD p 0 else -1))
      cases hr : x.rest
      · rfl
      · have := hat.plc.on p hp (by rw [u1]; exact hr)
        simp only [if_true]
        exact (decide_eq_true this).symm
  · rw [labs_idx hy, labs_idx hz, e1, e2]
end Hx
end Go.Proofs.YtppcnlkhdgmaiaaDoor
namespace Go.Proofs.YtppcnlkhdgmaiaaDoor
namespace Hx

theorem lastIx_pl {o : List Trn} {p : Nat} : ∀ {k : Nat}, (∃ j t, j < k ∧ o[j]? = some t ∧ t.pl = p) → ∃ t, o[lastIx o k p]? = some t ∧ t.pl = p ∧ lastIx o k p < k ∧ ∀ j t, lastIx o k p < j → j < k → o[j]? = some t → t.pl ≠ p
  | 0, h => by obtain ⟨j, _, h, _⟩ := h; omega
  | k + 1, h => by
    obtain ⟨j, t, hj, ht, hp⟩ := h
    cases hk : o[k]? with
    | none =>
      have hjk : j < k := by
        by_cases e : j = k
        · subst e; rw [hk] at ht; cases ht
        · omega
      obtain ⟨t', a1, a2, a3, a4⟩ := lastIx_pl (k := k) ⟨j, t, hjk, ht, hp⟩
      have e : lastIx o (k + 1) p = lastIx o k p := by rw [lastIx, hk]
      rw [e]
      refine ⟨t', a1, a2, by omega, fun i s h1 h2 h3 => ?_⟩
      by_cases e2 : i = k
      · subst e2; rw [hk] at h3; cases h3
      · exact a4 i s h1 (by omega) h3
    | some u =>
      have e := lastIx_step hk p
      by_cases hu : p = u.pl
      · rw [if_pos hu] at e
        rw [e]
        exact ⟨u, hk, hu.symm, by omega, fun i s h1 h2 _ => by omega⟩
      · rw [if_neg hu] at e
        rw [e]
        have hjk : j < k := by
          by_cases e2 : j = k
          · subst e2; rw [hk] at ht; cases ht; exact absurd hp.symm hu
          · omega
        obtain ⟨t', a1, a2, a3, a4⟩ := lastIx_pl (k := k) ⟨j, t, hjk, ht, hp⟩
        refine ⟨t', a1, a2, by omega, fun i s h1 h2 h3 => ?_⟩
        by_cases e2 : i = k
        · subst e2; rw [hk] at h3; cases h3; exact fun g => hu g.symm
        · exact a4 i s h1 (by omega) h3
theorem lim_keeps {J : Nat} {o : List Trn} {f : Nat → Int} (h : earlyF J o = some f) {i : Nat} (hi : i < o.length) {m : Lim} (hm : m ∈ limAt J o i) : f m.fr + m.more ≤ f m.to :=
  (early_least h).1.2 m (List.mem_flatMap.2 ⟨i, List.mem_range.2 hi, hm⟩)
/-- One step behind the other: the arm is free. -/
theorem Tm.arm {J K D ps o f} (h : Tm J K D ps o f) {k : Nat} {t u : Trn} (ht : (o.map (turnOfIdx ps))[k]? = some t) (hu : (o.map (turnOfIdx ps))[k + 1]? = some u) : f k + J + t.x.hi ≤ f (k + 1) := by
  have := lim_keeps h.early (i := k + 1) (getElem?_lt hu) (m := ⟨k, k + 1, (J : Int) + t.x.hi⟩) (by
    unfold limAt
    rw [hu]
    refine List.mem_append_left _ ?_
    unfold lim1
    rw [if_pos (by omega), Nat.add_sub_cancel, ht]
    simp)
  simp only at this
  omega
/-- The step ahead of a rest: the last one of its plate, in time for it. -/
theorem Tm.rest {J K D ps o f} (h : Tm J K D ps o f) {k : Nat} {r nx p q x} (hat : AtK K ps o k r nx p q x) (hr : x.rest = true) :
    ∃ a t, a < k ∧ (o.map (turnOfIdx ps))[a]? = some t ∧ t.pl = p ∧ (∀ j s, a < j → j < k → (o.map (turnOfIdx ps))[j]? = some s → s.pl ≠ p) ∧ f a + J + t.x.hi + x.mn ≤ f k ∧ f k + J ≤ f a + t.x.lo + x.mx := by
  have hord := order_is h.good.fine h.mem
  have hk : k < o.length := getElem?_lt hat.i
  obtain ⟨b, hb1, hb2⟩ := hord.prev k _ ⟨p, nx p, x⟩ hat.i (labs_at hat.hq hat.hx) hr
  have hn0 : 0 < nx p := by
    obtain ⟨y, l, e, hy⟩ := h.good.fine p q hat.hq
    rcases Nat.eq_zero_or_pos (nx p) with g | g
    · have hx := hat.hx
      rw [g, e] at hx
      simp at hx
      rw [hx] at hy
      rw [hy] at hr
      cases hr
    · exact g
  obtain ⟨y, hy⟩ : ∃ y, q[nx p - 1]? = some y := ⟨q[nx p - 1]'(by have := getElem?_lt hat.hx; omega), List.getElem?_eq_getElem _⟩
  have hb : b = offP ps p + (nx p - 1) := by omega
  have htb : (o.map (turnOfIdx ps))[lastIx (o.map (turnOfIdx ps)) k p]? = some (turnOfIdx ps b) := by rw [List.getElem?_map, hb1]; rfl
  have hpl : (turnOfIdx ps b).pl = p := by rw [hb, turn_pl hat.hq hy]
  have hk0 : 0 < k := by
    rcases Nat.eq_zero_or_pos k with g | g
    · exfalso
      subst g
      have e : lastIx (o.map (turnOfIdx ps)) 0 p = 0 := rfl
      have hb1' : o[0]? = some b := hb1
      rw [hat.i] at hb1'
      have := Option.some.inj hb1'
      omega
    · exact g
  have hlt := lastIx_lt (o.map (turnOfIdx ps)) p k hk0
  obtain ⟨t, a1, a2, a3, a4⟩ := lastIx_pl (o := o.map (turnOfIdx ps)) (p := p) (k := k) ⟨_, _, hlt, htb, hpl⟩
  have hlim : ∀ m ∈ lim2 J (o.map (turnOfIdx ps)) k ⟨x, p, nx p, begB q (nx p)⟩, f m.fr + m.more ≤ f m.to := fun m hm =>
    lim_keeps h.early (i := k) (by rw [List.length_map]; exact hk) (by
      unfold limAt
      rw [hat.trnk]
      exact List.mem_append_right _ hm)
  unfold lim2 at hlim
  simp only [hr, if_true, a1] at hlim
  have l1 := hlim _ (List.mem_cons_self ..)
  have l2 := hlim _ (List.mem_cons_of_mem _ (List.mem_cons_self ..))
  simp only at l1 l2
  exact ⟨_, t, a3, a1, a2, a4, by omega, by omega⟩
/-! ### Places that are full. -/
def outF (g : Nat → Bool) (y : TStp) : Nat → Bool := fun z => if (z : Int) = y.out then false else g z
def inF (g : Nat → Bool) (y : TStp) : Nat → Bool := fun z => if (z : Int) = y.inn then true else g z
def fullF (l : List TStp) : Nat → Bool := l.foldl (fun g y => inF (outF g y) y) (fun _ => false)
theorem fullF_at {l : List TStp} {k : Nat} {y : TStp} (h : l[k]? = some y) : fullF (l.take (k + 1)) = inF (outF (fullF (l.take k)) y) y := by
  unfold fullF
  rw [take_more h, List.foldl_append]
  rfl
theorem full_held {l : List TStp} (hr : Right l) : ∀ (k z : Nat), k ≤ l.length → fullF (l.take k) z = true → ∃ a, a < 4 ∧ (holdF (l.take k) a).1 = (z : Int)
  | 0, z, _, h => by rw [List.take_zero] at h; cases h
  | k + 1, z, hk, h => by
    have hy : l[k]? = some l[k] := List.getElem?_eq_getElem (by omega)
    have hown := right_own hr hy
    have hpl := (hr.ok _ (List.mem_of_getElem? hy)).pl
    rw [fullF_at hy] at h
    unfold inF at h
    by_cases e1 : (z : Int) = (l[k]).inn
    · exact ⟨_, hpl, by rw [hold_at hy, if_pos rfl, e1]⟩
    · rw [if_neg e1] at h
      unfold outF at h
      by_cases e2 : (z : Int) = (l[k]).out
      · rw [if_pos e2] at h; cases h
      · rw [if_neg e2] at h
        obtain ⟨a, ha, hz⟩ := full_held hr k z (by omega) h
        by_cases e3 : (l[k]).pl = a
        · exfalso
          rw [← e3, ← hown.2.1] at hz
          exact e2 hz.symm
        · exact ⟨a, ha, by rw [hold_at hy, if_neg e3]; exact hz⟩
/-- The place into which a plate goes is not full. -/
theorem not_full {l : List TStp} (hr : Right l) {k n : Nat} {y : TStp} (hy : l[k]? = some y) (hn : y.inn = (n : Int)) : outF (fullF (l.take k)) y n = false := by
  have hown := right_own hr hy
  unfold outF
  by_cases e : (n : Int) = y.out
  · rw [if_pos e]
  · rw [if_neg e]
    cases hf : fullF (l.take k) n with
    | false => rfl
    | true =>
      exfalso
      obtain ⟨a, ha, hz⟩ := full_held hr k n (by have := at_lt hy; omega) hf
      by_cases ea : a = y.pl
      · rw [ea, ← hown.2.1] at hz
        exact e hz.symm
      · have h1 := hr.right k (at_lt hy)
        unfold rightF at h1
        rw [hy] at h1
        simp only [Bool.and_eq_true, List.all_eq_true] at h1
        have h2 := h1.2 a (List.mem_range.2 ha)
        unfold clash at h2
        rw [hz, hn] at h2
        simp [ea] at h2
/-- A rest begins in a place below K. -/
theorem Tm.into {J K D ps o f} (_h : Tm J K D ps o f) {k : Nat} {r nx p q x} (hat : AtK K ps o k r nx p q x) (hb : begB q (nx p) = true) : lowF (sOut ⟨x, p, nx p, begB q (nx p)⟩ (stAt ps (o.take k))) < K :=
  low_places hat.so hat.plc hat.tat hat.rk hb
theorem out_rest {x : TStp} (h : TOk x) (g : 0 ≤ x.out) : x.rest = true := by
  cases hr : x.rest
  · have := (h.norest hr).2.2; omega
  · rfl
/-- The times hold whatever the clock and the steps do. -/
structure RobP (J K : Nat) (l : List TStp) : Prop where
  right : Right l
  arm : ∀ (k : Nat) (x y : TStp), l[k]? = some x → l[k + 1]? = some y → x.t + J + x.hi ≤ y.t
  rest : ∀ (k : Nat) (y : TStp), l[k]? = some y → 0 ≤ y.out → ∃ (a : Nat) (x : TStp), a < k ∧ l[a]? = some x ∧ x.pl = y.pl ∧ (∀ (j : Nat) (z : TStp), a < j → j < k → l[j]? = some z → z.pl ≠ y.pl) ∧ x.inn = y.out ∧ x.t + J + x.hi + y.mn ≤ y.t ∧ y.t + J ≤ x.t + x.lo + y.mx
  into : ∀ (k : Nat) (y : TStp), l[k]? = some y → 0 ≤ y.inn → y.inn < (K : Int)
theorem Tm.rob {J K D ps o f} (h : Tm J K D ps o f) : RobP J K (ttab ps o f) := by
  have hR := h.right
  have hlt : ∀ {k : Nat} {z : TStp}, (ttab ps o f)[k]? = some z → k < o.length := fun hz => by have := getElem?_lt hz; rw [ttab_len] at this; exact this
  refine ⟨hR, fun k x y hx hy => ?_, fun k y hy ho => ?_, fun k y hy hi => ?_⟩
  · obtain ⟨r1, nx1, p1, q1, x1, h1⟩ := h.at (hlt hx)
    obtain ⟨r2, nx2, p2, q2, x2, h2⟩ := h.at (hlt hy)
    have ha := h.arm h1.trnk h2.trnk
    have b1 := (h.f0 (hlt hx)).1
    have b2 := (h.f0 (hlt hy)).1
    rw [h1.row f] at hx
    rw [h2.row f] at hy
    cases hx
    cases hy
    show (f k).toNat + J + x1.hi ≤ (f (k + 1)).toNat
    simp only at ha
    omega
  · have hk := hlt hy
    obtain ⟨r, nx, p, q, x, hat⟩ := h.at hk
    have hrow := hat.row f
    have hy' := hy
    rw [hrow] at hy'
    cases hy'
    have hr : x.rest = true := out_rest (hR.ok _ (List.mem_of_getElem? hy)) ho
    obtain ⟨a, t, a1, a2, a3, a4, a5, a6⟩ := h.rest hat hr
    obtain ⟨r2, nx2, p2, q2, x2, h2⟩ := h.at (k := a) (by omega)
    rw [h2.trnk] at a2
    cases a2
    have b1 := (h.f0 (k := a) (by omega)).1
    have b2 := (h.f0 hk).1
    have hbt : ∀ (j : Nat) (z : TStp), a < j → j < k → (ttab ps o f)[j]? = some z → z.pl ≠ p := fun j z g1 g2 g3 => by
      obtain ⟨r3, nx3, p3, q3, x3, h3⟩ := h.at (hlt g3)
      have := a4 j _ g1 g2 h3.trnk
      rw [h3.row f] at g3
      cases g3
      exact this
    have hown := (right_own hR hy).2.1
    have e := hold_kept (l := ttab ps o f) (p := p) (i := a + 1) (k - (a + 1)) (fun j z g1 g2 g3 => hbt j z (by omega) (by omega) g3)
    rw [show a + 1 + (k - (a + 1)) = k by omega, hold_at (h2.row f), if_pos (show (tStp ⟨x2, p2, nx2 p2, begB q2 (nx2 p2)⟩ (f a) (stAt ps (o.take a))).pl = p from a3)] at e
    refine ⟨a, _, a1, h2.row f, a3, hbt, ?_, ?_, ?_⟩
    · have : (tStp ⟨x, p, nx p, begB q (nx p)⟩ (f k) (stAt ps (o.take k))).out = (holdF ((ttab ps o f).take k) p).1 := hown
      rw [this, e]
    · show (f a).toNat + J + x2.hi + (if x.rest then x.mn else 0) ≤ (f k).toNat
      rw [hr, if_pos rfl]
      simp only at a5
      omega
    · show (f k).toNat + J ≤ (f a).toNat + x2.lo + (if x.rest then x.mx else 0)
      rw [hr, if_pos rfl]
      simp only at a6
      omega
  · obtain ⟨r, nx, p, q, x, hat⟩ := h.at (hlt hy)
    rw [hat.row f] at hy
    cases hy
    have hi' : 0 ≤ (if begB q (nx p) then (lowF (sOut ⟨x, p, nx p, begB q (nx p)⟩ (stAt ps (o.take k))) : Int) else -1) := hi
    show (if begB q (nx p) then (lowF (sOut ⟨x, p, nx p, begB q (nx p)⟩ (stAt ps (o.take k))) : Int) else -1) < (K : Int)
    cases hb : begB q (nx p) with
    | false => rw [hb] at hi'; simp at hi'
    | true =>
      have := h.into hat hb
      rw [hb] at this
      simp only [if_true]
      omega
end Hx
end Go.Proofs.YtppcnlkhdgmaiaaDoor
namespace Go.Proofs.YtppcnlkhdgmaiaaDoor
namespace Hx

theorem tightI_cases (J : Nat) (L : List Lst) : (∃ i : Nat, i < L.length ∧ firstTight J L = some i ∧ tightI J L = (i : Int)) ∨ (firstTight J L = none ∧ tightI J L = -1) := by
  unfold tightI
  cases h : firstTight J L with
  | none => exact Or.inr ⟨rfl, rfl⟩
  | some i =>
    refine Or.inl ⟨i, ?_, rfl, rfl⟩
    unfold firstTight at h
    exact List.mem_range.1 (List.mem_of_find?_eq_some h)
theorem tight0 {J : Nat} {ps : List (List Stp)} (h : GoodS ps) : tightAt J (labs ps) 0 = false := by
  have hp : 0 < ps.length := List.length_pos_iff.2 h.pos
  have hq : ps[0]? = some ps[0] := List.getElem?_eq_getElem hp
  obtain ⟨x, r, e, hx⟩ := h.head _ (List.mem_of_getElem? hq)
  have := labs_at (p := 0) (n := 0) hq (by rw [e]; rfl : (ps[0])[0]? = some x)
  rw [show offP ps 0 + 0 = 0 from rfl] at this
  unfold tightAt
  rw [this]
  simp [hx]
/-- What Kept asks. -/
structure KeptP (J K D : Nat) (ps : List (List Stp)) (N : Nat) (A : List UInt8 × Bool × Int) : Prop where
  tight : ∀ i : Nat, tightI J (labs ps) = (i : Int) → ∃ y, (labs ps)[i]? = some y ∧ y.pl < 4 ∧ y.no < 10 ∧ A.1 = [UInt8.ofNat (97 + y.pl)] ++ Lib.itoa (y.no : Int) ∧ A.2.2 = 6
  loose : tightI J (labs ps) = -1 → (A.2.2 = 0 ∧ ∃ e o f, Told J K D ps A.1 e o f ∧ e ≤ (D : Int)) ∨ (A.1 = [] ∧ A.2.2 = 8) ∨ (A.1 = [] ∧ A.2.2 = 7 ∧ 0 < N)
theorem kept_is {J K D : Nat} {ps : List (List Stp)} (hs : GoodS ps) (hg : GoodP J K D ps) {N : Nat} (hN : N ≤ 1000) : KeptP J K D ps N (planS J K D ps (N : Int)) := by
  rw [planS_err (by omega) (by omega), Int.toNat_natCast]
  rcases tightI_cases J (labs ps) with ⟨i, hi, hf, ht⟩ | ⟨hf, ht⟩
  · rw [hf]
    simp only [Option.isSome_some, if_true]
    refine ⟨fun k hk => ?_, fun h => by rw [ht] at h; omega⟩
    rw [ht] at hk
    have hk : k = i := by omega
    subst hk
    obtain ⟨p, n, q, x, hq, hx, rfl⟩ := labs_inv hi
    have hat := labs_at hq hx
    have hks := hs.ks _ (List.mem_of_getElem? hat)
    have e1 : tightT J ps = ⟨x, p, n, restAfter (labs ps) (offP ps p + n)⟩ := by
      unfold tightT
      rw [hf]
      exact turn_pl hq hx
    refine ⟨_, hat, hks.pl, hks.no, ?_, rfl⟩
    rw [e1, ← dec_is, decF_one hks.no]
    rfl
  · rw [hf]
    simp only [Option.isSome_none, Bool.false_eq_true, if_false]
    refine ⟨fun k hk => by rw [ht] at hk; omega, fun _ => ?_⟩
    unfold planB
    cases hb : bestF J D ps (((ordersF K ps).take N).map (·.1)) with
    | some b =>
      have ho := told_of hg hb
      exact Or.inl ⟨rfl, _, _, _, ho, by rw [ho.en]; exact ho.tm.time⟩
    | none =>
      refine Or.inr ?_
      by_cases h0 : N = 0
      · left
        refine ⟨rfl, ?_⟩
        show (if moreF K ps N then (8 : Int) else 7) = 8
        unfold moreF
        rw [if_pos h0]; rfl
      · cases hm : moreF K ps N
        · right; exact ⟨rfl, rfl, by omega⟩
        · left; exact ⟨rfl, rfl⟩
end Hx
end Go.Proofs.YtppcnlkhdgmaiaaDoor
namespace Go.Proofs.YtppcnlkhdgmaiaaDoor
namespace Hx

/-! ### How many orders there are. -/
def fct : Nat → Nat
  | 0 => 1
  | n + 1 => (n + 1) * fct n
theorem fct_six (n : Nat) (h : n ≤ 6) : fct n ≤ 720 := by
  have : n = 0 ∨ n = 1 ∨ n = 2 ∨ n = 3 ∨ n = 4 ∨ n = 5 ∨ n = 6 := by omega
  rcases this with rfl | rfl | rfl | rfl | rfl | rfl | rfl <;> decide
theorem flat_len {α β : Type} {g : α → List β} {B : Nat} : ∀ (ts : List α), (∀ t ∈ ts, (g t).length ≤ B) → (ts.flatMap g).length ≤ ts.length * B
  | [], _ => by simp
  | t :: ts, h => by
    have h1 := h t (by simp)
    have h2 := flat_len ts (fun t ht => h t (by simp [ht]))
    rw [List.flatMap_cons, List.length_append, List.length_cons, Nat.succ_mul]
    omega
theorem nxt_len {K : Nat} {ps : List (List Stp)} {r : Int} {nx : Nat → Nat} (hle : ∀ p, p < ps.length → nx p ≤ lenP ps p) : ∀ m, m ≤ ps.length → (((List.range m).filterMap (nextAt K ps r nx)).length : Int) ≤ sumR (fun p => (lenP ps p : Int) - (nx p : Int)) m
  | 0, _ => by simp [sumR]
  | m + 1, h => by
    have ih := nxt_len (K := K) (r := r) hle m (by omega)
    have h1 := hle m (by omega)
    rw [List.range_succ, List.filterMap_append, List.length_append, sumR]
    cases hn : nextAt K ps r nx m with
    | none =>
      rw [List.filterMap_cons_none hn]
      simp
      omega
    | some t =>
      rw [List.filterMap_cons_some hn]
      have h2 : nx m < lenP ps m := by
        unfold nextAt at hn
        cases ht : turnAt ps m (nx m) with
        | none => rw [ht] at hn; cases hn
        | some u =>
          obtain ⟨q, x, hq, hx, _⟩ := turnAt_some ht
          rw [lenP_eq hq]
          exact getElem?_lt hx
      simp
      omega
theorem sumR_sub {f g : Nat → Int} : ∀ m, sumR (fun p => f p - g p) m = sumR f m - sumR g m
  | 0 => rfl
  | m + 1 => by rw [sumR, sumR, sumR, sumR_sub m]; omega
theorem allO_len {K : Nat} {ps : List (List Stp)} (hf : Fine ps) : ∀ (d : Nat) (l : List Nat) (r : Int) (nx : Nat → Nat), endS K (labs ps) l 0 (fun _ => 0) = some (r, nx) → l.length + d = (labs ps).length → (allO K (labs ps) d l).length ≤ fct d
  | 0, l, _, _, _, _ => by simp [allO, fct]
  | d + 1, l, r, nx, he, hl => by
    have hs : Sofar K ps l r nx := by simpa using Sofar.of_end hf l [] 0 _ r nx (Sofar.start K hf) he
    rw [allO_next hf he]
    have h1 : (nxtF K ps r nx).length ≤ d + 1 := by
      have h := nxt_len (K := K) (r := r) hs.le ps.length (Nat.le_refl _)
      rw [sumR_sub, flat_sum ps _ (Nat.le_refl _), offP_end, hs.cnt] at h
      unfold nxtF
      omega
    have h2 := flat_len (g := fun t => allO K (labs ps) d (l ++ [idxT ps t])) (B := fct d) (nxtF K ps r nx) (fun t ht => by
      unfold nxtF at ht
      obtain ⟨p, _, hp⟩ := List.mem_filterMap.1 ht
      obtain ⟨_, _, _, _, hfit⟩ := nextAt_fit hf hp
      exact allO_len hf d _ _ _ (by rw [endS_snoc, he, Option.bind_some, hfit]) (by simp; omega))
    exact Nat.le_trans h2 (Nat.mul_le_mul_right _ h1)
/-- What fits and has all steps is one of the orders. -/
theorem allO_mem {K : Nat} {L : List Lst} : ∀ (d : Nat) (l r : List Nat), r.length = d → (endS K L (l ++ r) 0 (fun _ => 0)).isSome = true → (∀ i ∈ r, i < L.length) → l ++ r ∈ allO K L d l
  | 0, l, r, hr, _, _ => by rw [List.length_eq_zero_iff.1 hr, List.append_nil]; exact List.mem_singleton.2 rfl
  | d + 1, l, [], hr, _, _ => by cases hr
  | d + 1, l, i :: r, hr, he, hi => by
    have e : l ++ i :: r = (l ++ [i]) ++ r := by simp
    rw [e] at he ⊢
    have h1 : fitsF K L (l ++ [i]) 0 (fun _ => 0) = true := by
      rw [fitsF_endS]
      have := end_take _ he (l ++ [i]).length
      rwa [List.take_left] at this
    rw [allO, List.mem_flatMap]
    exact ⟨i, List.mem_range.2 (hi i (by simp)), by rw [if_pos h1]; exact allO_mem d (l ++ [i]) r (by simpa using hr) he (fun j hj => hi j (by simp [hj]))⟩
theorem better_some {J D : Nat} {ps : List (List Stp)} {o : List Nat} {f : Nat → Int} {e : Int} (h : candF J D ps o = some (f, e)) (acc : Option Bst) : ∃ b, betterF J D ps acc o = some b ∧ b.e ≤ e := by
  unfold betterF
  rw [h]
  cases acc with
  | none => exact ⟨_, rfl, Int.le_refl _⟩
  | some b =>
    simp only
    split
    · exact ⟨_, rfl, Int.le_refl _⟩
    · exact ⟨b, rfl, by omega⟩
theorem best_le {J D : Nat} {ps : List (List Stp)} {os : List (List Nat)} {o : List Nat} {f : Nat → Int} {e : Int} (ho : o ∈ os) (hc : candF J D ps o = some (f, e)) : ∃ b, bestF J D ps os = some b ∧ b.e ≤ e := by
  obtain ⟨A, B, rfl⟩ := List.append_of_mem ho
  unfold bestF
  rw [List.foldl_append, List.foldl_cons]
  obtain ⟨b, h1, h2⟩ := better_some hc (A.foldl (betterF J D ps) none)
  rw [h1]
  obtain ⟨b', h3, h4⟩ := better_le J D ps B b
  exact ⟨b', h3, Int.le_trans h4 h2⟩

/-! ### Earliest times, step by step. -/
def gtI (a b : Int) : Int := if b < a then a else b
theorem gtI_l (a b : Int) : a ≤ gtI a b := by unfold gtI; split <;> omega
theorem gtI_r (a b : Int) : b ≤ gtI a b := by unfold gtI; split <;> omega
theorem gtI_le {a b c : Int} (h : a ≤ c) (g : b ≤ c) : gtI a b ≤ c := by unfold gtI; split <;> omega
theorem gtI_mono {a b c d : Int} (h : a ≤ c) (g : b ≤ d) : gtI a b ≤ gtI c d := gtI_le (Int.le_trans h (gtI_l _ _)) (Int.le_trans g (gtI_r _ _))
def loAt (L : List Lst) (i : Nat) : Nat := match L[i]? with | some y => y.x.lo | none => 0
def mnAt (L : List Lst) (i : Nat) : Nat := match L[i]? with | some y => y.x.mn | none => 0
def mxAt (L : List Lst) (i : Nat) : Nat := match L[i]? with | some y => y.x.mx | none => 0
def rsAt (L : List Lst) (i : Nat) : Bool := match L[i]? with | some y => y.x.rest | none => false
def low1 (J : Nat) (L : List Lst) (o : List Nat) (T : Nat → Int) (k : Nat) : Int := if 0 < k then gtI (T (o.getD k 0)) (T (o.getD (k - 1) 0) + J + hiAt L (o.getD (k - 1) 0)) else T (o.getD k 0)
def low2 (J : Nat) (L : List Lst) (o : List Nat) (T : Nat → Int) (k : Nat) : Int := if rsAt L (o.getD k 0) then gtI (low1 J L o T k) (T (o.getD k 0 - 1) + J + hiAt L (o.getD k 0 - 1) + mnAt L (o.getD k 0)) else low1 J L o T k
def lowE (J : Nat) (L : List Lst) (o : List Nat) (T : Nat → Int) (k : Nat) : Int := if restAfter L (o.getD k 0) then gtI (low2 J L o T k) (T (o.getD k 0 + 1) + J - loAt L (o.getD k 0) - mxAt L (o.getD k 0 + 1)) else low2 J L o T k
/-- Times that are raised no more. -/
def KeepE (J : Nat) (L : List Lst) (o : List Nat) (S : Nat → Int) : Prop := ∀ k, k < o.length → lowE J L o S k ≤ S (o.getD k 0)
theorem low1_ge (J : Nat) (L : List Lst) (o : List Nat) (T : Nat → Int) (k : Nat) : T (o.getD k 0) ≤ low1 J L o T k := by
  unfold low1
  split
  · exact gtI_l _ _
  · exact Int.le_refl _
theorem low2_ge (J : Nat) (L : List Lst) (o : List Nat) (T : Nat → Int) (k : Nat) : low1 J L o T k ≤ low2 J L o T k := by
  unfold low2
  split
  · exact gtI_l _ _
  · exact Int.le_refl _
theorem lowE_ge (J : Nat) (L : List Lst) (o : List Nat) (T : Nat → Int) (k : Nat) : low2 J L o T k ≤ lowE J L o T k := by
  unfold lowE
  split
  · exact gtI_l _ _
  · exact Int.le_refl _
theorem restAfter_lt {L : List Lst} {i : Nat} (h : restAfter L i = true) : ∃ z, L[i + 1]? = some z ∧ z.x.rest = true := by
  unfold restAfter at h
  cases hz : L[i + 1]? with
  | none => rw [hz] at h; cases h
  | some z => rw [hz] at h; exact ⟨z, rfl, h⟩
/-- Later times, later limits. -/
theorem lowE_mono {J : Nat} {L : List Lst} {o : List Nat} {T S : Nat → Int} (hlt : ∀ i ∈ o, i < L.length) (h : ∀ i, i < L.length → T i ≤ S i) {k : Nat} (hk : k < o.length) : lowE J L o T k ≤ lowE J L o S k := by
  have hat : ∀ j, j < o.length → o.getD j 0 < L.length := fun j hj => hlt _ (List.mem_of_getElem? (getD_at hj))
  have hi := hat k hk
  have h1 : low1 J L o T k ≤ low1 J L o S k := by
    unfold low1
    split
    · have := h _ (hat (k - 1) (by omega))
      exact gtI_mono (h _ hi) (by omega)
    · exact h _ hi
  have h2 : low2 J L o T k ≤ low2 J L o S k := by
    unfold low2
    split
    · have := h (o.getD k 0 - 1) (by omega)
      exact gtI_mono h1 (by omega)
    · exact h1
  unfold lowE
  split
  · rename_i hr
    obtain ⟨z, hz, _⟩ := restAfter_lt hr
    have := h _ (getElem?_lt hz)
    exact gtI_mono h2 (by omega)
  · exact h2
theorem ord_idx {ps : List (List Stp)} {o : List Nat} (ho : Ord ps o) {a : Nat} (ha : a < (labs ps).length) : ∃ k, k < o.length ∧ o.getD k 0 = a := by
  obtain ⟨k, hk, e⟩ := List.mem_iff_getElem.1 (ho.all a ha)
  exact ⟨k, hk, by rw [List.getD_eq_getElem?_getD, List.getElem?_eq_getElem hk]; exact e⟩
theorem keepE_lims {J : Nat} {ps : List (List Stp)} {o : List Nat} (ho : Ord ps o) {T : Nat → Int} (hn : T (labs ps).length = 0) (h0 : ∀ i, i < (labs ps).length → 0 ≤ T i) (hk : KeepE J (labs ps) o T) :
    KeepsL (labs ps).length (limsOf J (o.map (turnOfIdx ps))) (fun k => T (o.getD k 0)) := by
  refine lims_of ho hn ?_
  have hlen := ho.len
  rintro a b v hC _ _
  rcases hC with ((⟨rfl, rfl⟩ | ⟨rfl, hb, rfl⟩) | ⟨k, hk1, rfl, rfl, rfl⟩) | ⟨i, g1, g2, x, y, hx, hy, hr, hc⟩
  · omega
  · have := h0 b hb
    omega
  · have a1 := hk (k + 1) (by omega)
    have a2 := lowE_ge J (labs ps) o T (k + 1)
    have a3 := low2_ge J (labs ps) o T (k + 1)
    have a4 : T (o.getD k 0) + J + hiAt (labs ps) (o.getD k 0) ≤ low1 J (labs ps) o T (k + 1) := by
      unfold low1
      rw [if_pos (by omega), Nat.add_sub_cancel]
      exact gtI_r _ _
    omega
  · rcases hc with ⟨rfl, rfl, rfl⟩ | ⟨rfl, rfl, rfl⟩
    · obtain ⟨k, hk1, e⟩ := ord_idx ho (getElem?_lt hx)
      have a1 := hk k hk1
      have a2 := lowE_ge J (labs ps) o T k
      have a3 : T (b - 1) + J + hiAt (labs ps) (b - 1) + mnAt (labs ps) b ≤ low2 J (labs ps) o T k := by
        unfold low2
        have : rsAt (labs ps) (o.getD k 0) = true := by rw [e]; unfold rsAt; rw [hx]; exact hr
        rw [if_pos this, e]
        exact gtI_r _ _
      have e1 : hiAt (labs ps) (b - 1) = y.x.hi := by unfold hiAt; rw [hy]
      have e2 : mnAt (labs ps) b = x.x.mn := by unfold mnAt; rw [hx]
      rw [e] at a1
      rw [e1, e2] at a3
      omega
    · obtain ⟨k, hk1, e⟩ := ord_idx ho (getElem?_lt hy)
      have a1 := hk k hk1
      have ei : a - 1 + 1 = a := by omega
      have a3 : T a + J - loAt (labs ps) (a - 1) - mxAt (labs ps) a ≤ lowE J (labs ps) o T k := by
        unfold lowE
        have : restAfter (labs ps) (o.getD k 0) = true := by rw [e]; unfold restAfter; rw [ei, hx]; exact hr
        rw [if_pos this, e, ei]
        exact gtI_r _ _
      have e1 : loAt (labs ps) (a - 1) = y.x.lo := by unfold loAt; rw [hy]
      have e2 : mxAt (labs ps) a = x.x.mx := by unfold mxAt; rw [hx]
      rw [e] at a1
      rw [e1, e2] at a3
      omega
theorem labs_before {ps : List (List Stp)} (hf : Fine ps) {k : Nat} {y : Lst} (h : (labs ps)[k]? = some y) (hr : y.x.rest = true) : ∃ a, 1 ≤ k ∧ (labs ps)[k - 1]? = some a := by
  obtain ⟨p, n, q, x, hq, hx, e⟩ := labs_inv (getElem?_lt h)
  have h2 := h
  rw [e, labs_at hq hx] at h2
  cases h2
  obtain ⟨x0, r, eq, hx0⟩ := hf p q hq
  cases n with
  | zero => rw [eq] at hx; simp at hx; rw [hx] at hx0; rw [hx0] at hr; cases hr
  | succ n =>
    have hx1 : q[n]? = some (q[n]'(by have := getElem?_lt hx; omega)) := List.getElem?_eq_getElem _
    exact ⟨_, by omega, by rw [show k - 1 = offP ps p + n by omega]; exact labs_at hq hx1⟩
theorem keepE_of {J : Nat} {ps : List (List Stp)} (hf : Fine ps) {o : List Nat} (ho : Ord ps o) {s : Nat → Int} (hs : KeepsL (labs ps).length (limsOf J (o.map (turnOfIdx ps))) s) :
    ∃ S : Nat → Int, (∀ i, i < (labs ps).length → 0 ≤ S i) ∧ (∀ k, k < (labs ps).length → S (o.getD k 0) = s k) ∧ KeepE J (labs ps) o S := by
  obtain ⟨S, _, s2, s3⟩ := bounds_of ho hs
  have hlen := ho.len
  refine ⟨S, fun i hi => ?_, s2, fun k hk => ?_⟩
  · obtain ⟨k, hk, e⟩ := ord_idx ho hi
    have := hs.1 k (by omega)
    rw [← s2 k (by omega), e] at this
    exact this
  · have hi : o.getD k 0 < (labs ps).length := ho.lt _ (List.mem_of_getElem? (getD_at hk))
    have b1 : low1 J (labs ps) o S k ≤ S (o.getD k 0) := by
      unfold low1
      split
      · have := s3 (o.getD (k - 1) 0) (o.getD k 0) _ (Or.inl (Or.inr ⟨k - 1, by omega, rfl, by rw [show k - 1 + 1 = k by omega], rfl⟩))
        exact gtI_le (Int.le_refl _) (by omega)
      · exact Int.le_refl _
    have b2 : low2 J (labs ps) o S k ≤ S (o.getD k 0) := by
      unfold low2
      split
      · rename_i hr
        unfold rsAt at hr
        obtain ⟨x, hx⟩ : ∃ x, (labs ps)[o.getD k 0]? = some x := ⟨_, List.getElem?_eq_getElem hi⟩
        rw [hx] at hr
        obtain ⟨y, g1, hy⟩ := labs_before hf hx hr
        have := s3 (o.getD k 0 - 1) (o.getD k 0) _ (Or.inr ⟨o.getD k 0, g1, by omega, x, y, hx, hy, hr, Or.inl ⟨rfl, rfl, rfl⟩⟩)
        have e1 : hiAt (labs ps) (o.getD k 0 - 1) = y.x.hi := by unfold hiAt; rw [hy]
        have e2 : mnAt (labs ps) (o.getD k 0) = x.x.mn := by unfold mnAt; rw [hx]
        rw [e1, e2]
        exact gtI_le b1 (by omega)
      · exact b1
    unfold lowE
    split
    · rename_i hr
      obtain ⟨z, hz, hzr⟩ := restAfter_lt hr
      obtain ⟨x, hx⟩ : ∃ x, (labs ps)[o.getD k 0]? = some x := ⟨_, List.getElem?_eq_getElem hi⟩
      have hlt := getElem?_lt hz
      have := s3 (o.getD k 0 + 1) (o.getD k 0) _ (Or.inr ⟨o.getD k 0 + 1, by omega, by omega, z, x, hz, by rw [Nat.add_sub_cancel]; exact hx, hzr, Or.inr ⟨rfl, by rw [Nat.add_sub_cancel], rfl⟩⟩)
      have e1 : loAt (labs ps) (o.getD k 0) = x.x.lo := by unfold loAt; rw [hx]
      have e2 : mxAt (labs ps) (o.getD k 0 + 1) = z.x.mx := by unfold mxAt; rw [hz]
      rw [e1, e2]
      exact gtI_le b2 (by omega)
    · exact b2
/-- What earliest answers: it has found no times, or the least. -/
def EarlP (J : Nat) (L : List Lst) (o : List Nat) (r : Int) : Prop :=
  r = -1 ∨ ∃ T : Nat → Int, T L.length = 0 ∧ (∀ i, i < L.length → 0 ≤ T i) ∧ KeepE J L o T ∧ (∀ S : Nat → Int, (∀ i, i < L.length → 0 ≤ S i) → KeepE J L o S → ∀ i, i < L.length → T i ≤ S i) ∧ r = T (o.getD (o.length - 1) 0) + J + hiAt L (o.getD (o.length - 1) 0)
theorem earl_cand {J K D : Nat} {ps : List (List Stp)} (hg : GoodP J K D ps) {o : List Nat} (hm : o ∈ allO K (labs ps) (labs ps).length []) {r : Int} (h : EarlP J (labs ps) o r) : r < 0 ∨ (r ≤ (D : Int) → ∃ f, candF J D ps o = some (f, r)) := by
  have ho := order_is hg.fine hm
  have hlen := ho.len
  have hpos := labs_some hg
  rcases h with rfl | ⟨T, h1, h2, h3, h4, h5⟩
  · exact Or.inl (by omega)
  · right
    intro hD
    have hml : (o.map (turnOfIdx ps)).length = (labs ps).length := by rw [List.length_map]; exact hlen
    have hl : LeastL (o.map (turnOfIdx ps)).length (limsOf J (o.map (turnOfIdx ps))) (fun k => T (o.getD k 0)) := by
      rw [hml]
      refine ⟨keepE_lims ho h1 h2 h3, fun s hs k hk => ?_⟩
      obtain ⟨S, s1, s2, s3⟩ := keepE_of hg.fine ho hs
      have := h4 S s1 s3 (o.getD k 0) (ho.lt _ (List.mem_of_getElem? (getD_at (by omega))))
      rw [s2 k hk] at this
      exact this
    cases he : earlyF J (o.map (turnOfIdx ps)) with
    | none =>
      exfalso
      unfold earlyF at he
      exact roundsF_none (limsOf_in J _) (by omega) he _ hl
    | some f =>
      have hf := (early_least he).unique hl
      refine ⟨f, ?_⟩
      have hend : endT J (o.map (turnOfIdx ps)) f = r := by
        obtain ⟨y, hy⟩ : ∃ y, (labs ps)[o.getD (o.length - 1) 0]? = some y := ⟨_, List.getElem?_eq_getElem (ho.lt _ (List.mem_of_getElem? (getD_at (by omega))))⟩
        have e1 : (o.map (turnOfIdx ps))[o.length - 1]? = some ⟨y.x, y.pl, y.no, restAfter (labs ps) (o.getD (o.length - 1) 0)⟩ := by
          rw [map_at (getD_at (show o.length - 1 < o.length by omega)), turn_at hy]
        have e2 : hiAt (labs ps) (o.getD (o.length - 1) 0) = y.x.hi := by unfold hiAt; rw [hy]
        have e3 := hf (o.length - 1) (by omega)
        unfold endT
        rw [List.length_map, e1, h5, e2]
        simp only
        rw [e3]
      unfold candF
      rw [he]
      simp only
      rw [hend, if_pos hD]
/-- What Best asks. -/
structure BestP (J K D : Nat) (ps : List (List Stp)) (r : Int) (A : List UInt8 × Bool × Int) : Prop where
  err : A.2.2 = 0 ∨ A.2.2 = 7 ∨ A.2.2 = 8
  ok : A.2.2 = 0 → ∃ e o f, Told J K D ps A.1 e o f ∧ (A.2.1 = true ∨ 6 < (labs ps).length) ∧ (A.2.1 = false ∨ r < 0 ∨ e ≤ r)
  none : A.2.2 = 7 → A.1 = [] ∧ (r < 0 ∨ (D : Int) < r)
  spent : A.2.2 = 8 → A.1 = [] ∧ 6 < (labs ps).length
theorem best_is {J K D : Nat} {ps : List (List Stp)} (hg : GoodP J K D ps) (ht : tightI J (labs ps) = -1) {o : List Nat} (hm : o ∈ allO K (labs ps) (labs ps).length []) {r : Int} (hr : r < 0 ∨ (r ≤ (D : Int) → ∃ f, candF J D ps o = some (f, r))) : BestP J K D ps r (planS J K D ps 1000) := by
  have hnt : firstTight J (labs ps) = none := by
    rcases tightI_cases J (labs ps) with ⟨i, _, _, h⟩ | ⟨h, _⟩
    · rw [ht] at h; omega
    · exact h
  have hmore := more_is hg 1000
  have hall := allO_len (K := K) hg.fine (labs ps).length [] 0 (fun _ => 0) rfl (by simp)
  have hsix : (labs ps).length ≤ 6 → moreF K ps 1000 = false := fun h => by
    have := fct_six _ h
    rw [hmore]
    exact decide_eq_false (by omega)
  have hin : moreF K ps 1000 = false → o ∈ ((ordersF K ps).take 1000).map (·.1) := fun h => by
    rw [hmore] at h
    have h := of_decide_eq_false h
    rw [ordersF_fst, List.take_of_length_le (by omega)]
    exact hm
  rw [planS_err (by omega) (by omega), hnt]
  simp only [Option.isSome_none, Bool.false_eq_true, if_false]
  have e1 : (1000 : Int).toNat = 1000 := rfl
  rw [e1]
  unfold planB
  cases hb : bestF J D ps (((ordersF K ps).take 1000).map (·.1)) with
  | some b =>
    have hT := told_of hg hb
    have hbD : b.e ≤ (D : Int) := by rw [hT.en]; exact hT.tm.time
    refine ⟨Or.inl rfl, fun _ => ⟨_, _, _, hT, ?_, ?_⟩, fun h => (by cases h), fun h => (by cases h)⟩
    · by_cases h6 : (labs ps).length ≤ 6
      · left; show (!moreF K ps 1000) = true; rw [hsix h6]; rfl
      · right; omega
    · cases hmf : moreF K ps 1000 with
      | true => left; rfl
      | false =>
        right
        rcases hr with hr | hr
        · exact Or.inl hr
        · right
          by_cases hrD : r ≤ (D : Int)
          · obtain ⟨f, hc⟩ := hr hrD
            obtain ⟨b', h1, h2⟩ := best_le (hin hmf) hc
            rw [hb] at h1
            cases h1
            exact h2
          · omega
  | none =>
    refine ⟨?_, fun h => ?_, fun h => ?_, fun h => ?_⟩
    · cases moreF K ps 1000
      · exact Or.inr (Or.inl rfl)
      · exact Or.inr (Or.inr rfl)
    · exfalso
      cases hmf : moreF K ps 1000 <;> rw [hmf] at h <;> cases h
    · cases hmf : moreF K ps 1000 with
      | true => rw [hmf] at h; cases h
      | false =>
        refine ⟨rfl, ?_⟩
        rcases hr with hr | hr
        · exact Or.inl hr
        · right
          apply Classical.byContradiction
          intro hnD
          obtain ⟨f, hc⟩ := hr (by omega)
          obtain ⟨b', h1, _⟩ := best_le (hin hmf) hc
          rw [hb] at h1
          cases h1
    · cases hmf : moreF K ps 1000 with
      | false => rw [hmf] at h; cases h
      | true =>
        refine ⟨rfl, ?_⟩
        apply Classical.byContradiction
        intro h6
        rw [hsix (by omega)] at hmf
        cases hmf
end Hx
end Go.Proofs.YtppcnlkhdgmaiaaDoor
