/- The plain mathematics of times: the longest ways in a table of all pairs are the least times that keep all bounds, if there are any; a way round that is longer than nothing means that there are none. No program is named here. -/
namespace Go.Proofs.YtppcnlkhdgmaiaaDoor
namespace Hx

def oadd : Option Int → Option Int → Option Int
  | some a, some b => some (a + b)
  | _, _ => none
def omax : Option Int → Option Int → Option Int
  | none, y => y
  | some a, none => some a
  | some a, some b => some (if a < b then b else a)
/-- At most: none is below every number. -/
def ole : Option Int → Option Int → Prop
  | none, _ => True
  | some _, none => False
  | some a, some b => a ≤ b

theorem ole_refl (x : Option Int) : ole x x := by cases x <;> simp [ole]
theorem ole_trans {x y z : Option Int} (h : ole x y) (g : ole y z) : ole x z := by
  cases x <;> cases y <;> cases z <;> simp_all [ole]
  omega
theorem ole_left (x y : Option Int) : ole x (omax x y) := by
  cases x <;> cases y <;> simp [ole, omax]
  split <;> omega
theorem ole_right (x y : Option Int) : ole y (omax x y) := by
  cases x <;> cases y <;> simp [ole, omax]
  split <;> omega
theorem omax_ole {x y z : Option Int} (h : ole x z) (g : ole y z) : ole (omax x y) z := by
  cases x <;> cases y <;> cases z <;> simp_all [ole, omax]
  split <;> omega
theorem oadd_mono {a b c d : Option Int} (h : ole a c) (g : ole b d) : ole (oadd a b) (oadd c d) := by
  cases a <;> cases b <;> cases c <;> cases d <;> simp_all [ole, oadd]
  omega
theorem oadd_assoc (a b c : Option Int) : oadd (oadd a b) c = oadd a (oadd b c) := by
  cases a <;> cases b <;> cases c <;> simp [oadd]
  omega
theorem oadd_zero (a : Option Int) : oadd a (some 0) = a := by cases a <;> simp [oadd]
theorem zero_oadd (a : Option Int) : oadd (some 0) a = a := by cases a <;> simp [oadd]
theorem omax_self (a : Option Int) : omax a a = a := by cases a <;> simp [omax]
theorem oadd_omax_l (a b c : Option Int) : ole (oadd (omax a b) c) (omax (oadd a c) (oadd b c)) := by
  cases a <;> cases b <;> cases c <;> simp [oadd, omax, ole]
  split <;> omega
theorem oadd_omax_r (a b c : Option Int) : ole (oadd a (omax b c)) (omax (oadd a b) (oadd a c)) := by
  cases a <;> cases b <;> cases c <;> simp [oadd, omax, ole]
  split <;> omega

/-- One more node may be passed. -/
def relax (M : Nat → Nat → Option Int) (k a b : Nat) : Option Int := omax (M a b) (oadd (M a k) (M k b))
def Closed (M : Nat → Nat → Option Int) (k : Nat) : Prop := ∀ c, c < k → ∀ a b, ole (oadd (M a c) (M c b)) (M a b)

theorem relax_ge (M : Nat → Nat → Option Int) (k a b : Nat) : ole (M a b) (relax M k a b) := ole_left _ _
theorem relax_row {M : Nat → Nat → Option Int} {k : Nat} (h : M k k = some 0) (b : Nat) : relax M k k b = M k b := by
  simp [relax, h, zero_oadd, omax_self]
theorem relax_col {M : Nat → Nat → Option Int} {k : Nat} (h : M k k = some 0) (a : Nat) : relax M k a k = M a k := by
  simp [relax, h, oadd_zero, omax_self]
theorem relax_closed {M : Nat → Nat → Option Int} {k : Nat} (hc : Closed M k) (h : M k k = some 0) : Closed (relax M k) (k + 1) := by
  intro c hck a b
  by_cases e : c = k
  · subst e
    rw [relax_col h, relax_row h]
    exact ole_right _ _
  · have hc' := hc c (by omega)
    unfold relax
    refine ole_trans (oadd_omax_l _ _ _) (omax_ole ?_ ?_)
    · refine ole_trans (oadd_omax_r _ _ _) (omax_ole ?_ ?_)
      · exact ole_trans (hc' a b) (ole_left _ _)
      · refine ole_trans ?_ (ole_right _ _)
        rw [← oadd_assoc]
        exact oadd_mono (hc' a k) (ole_refl _)
    · refine ole_trans (oadd_omax_r _ _ _) (omax_ole ?_ ?_)
      · refine ole_trans ?_ (ole_right _ _)
        rw [oadd_assoc]
        exact oadd_mono (ole_refl _) (hc' k b)
      · refine ole_trans ?_ (ole_right _ _)
        have e2 : oadd (oadd (M a k) (M k c)) (oadd (M c k) (M k b)) = oadd (M a k) (oadd (oadd (M k c) (M c k)) (M k b)) := by
          rw [oadd_assoc, oadd_assoc]
        rw [e2]
        refine oadd_mono (ole_refl _) ?_
        have e3 := oadd_mono (hc' k k) (ole_refl (M k b))
        rw [h, zero_oadd] at e3
        exact e3

/-- Numbers at the nodes that keep every way's length. -/
def Keeps (M : Nat → Nat → Option Int) (S : Nat → Int) : Prop := ∀ a b v, M a b = some v → S a + v ≤ S b
theorem relax_keeps {M : Nat → Nat → Option Int} {S : Nat → Int} (h : Keeps M S) (k : Nat) : Keeps (relax M k) S := by
  intro a b v hv
  unfold relax at hv
  cases h1 : M a b with
  | none =>
    cases h2 : M a k with
    | none => simp [h1, h2, omax, oadd] at hv
    | some x =>
      cases h3 : M k b with
      | none => simp [h1, h2, h3, omax, oadd] at hv
      | some y =>
        simp [h1, h2, h3, omax, oadd] at hv
        have := h a k x h2
        have := h k b y h3
        omega
  | some u =>
    have g1 := h a b u h1
    cases h2 : M a k with
    | none => simp [h1, h2, omax, oadd] at hv; omega
    | some x =>
      cases h3 : M k b with
      | none => simp [h1, h2, h3, omax, oadd] at hv; omega
      | some y =>
        simp [h1, h2, h3, omax, oadd] at hv
        have := h a k x h2
        have := h k b y h3
        split at hv <;> omega
/-- A way round that is longer than nothing: no numbers keep the table. -/
theorem no_keeps {M : Nat → Nat → Option Int} {a : Nat} {v : Int} (h : M a a = some v) (hv : 0 < v) (S : Nat → Int) : ¬ Keeps M S := by
  intro hk
  have := hk a a v h
  omega

/-- The table when nodes 0 .. k-1 may be passed. -/
def fw (M : Nat → Nat → Option Int) : Nat → Nat → Nat → Option Int
  | 0 => M
  | k + 1 => relax (fw M k) k

theorem fw_ge (M : Nat → Nat → Option Int) : ∀ k a b, ole (M a b) (fw M k a b)
  | 0, _, _ => ole_refl _
  | k + 1, a, b => ole_trans (fw_ge M k a b) (relax_ge _ _ _ _)
theorem fw_keeps {M : Nat → Nat → Option Int} {S : Nat → Int} (h : Keeps M S) : ∀ k, Keeps (fw M k) S
  | 0 => h
  | k + 1 => relax_keeps (fw_keeps h k) k
theorem fw_closed {M : Nat → Nat → Option Int} : ∀ k, (∀ c, c < k → fw M c c c = some 0) → Closed (fw M k) k
  | 0, _ => fun c hc => absurd hc (by omega)
  | k + 1, h => relax_closed (fw_closed k fun c hc => h c (by omega)) (h k (by omega))

/-- With all nodes passed, what leads from the node z is kept, and is the least that is. -/
theorem fw_times {M : Nat → Nat → Option Int} {n z : Nat} {t : Nat → Int} (hd : ∀ c, c < n → fw M c c c = some 0) (ht : ∀ j, j < n → fw M n z j = some (t j)) : (∀ a b v, a < n → b < n → M a b = some v → t a + v ≤ t b) := by
  intro a b v ha hb hv
  have hc := fw_closed n hd a ha z b
  have hg := fw_ge M n a b
  rw [hv] at hg
  rw [ht a ha, ht b hb] at hc
  cases h : fw M n a b with
  | none => rw [h] at hg; simp [ole] at hg
  | some u =>
    rw [h] at hg hc
    simp [ole, oadd] at hg hc
    omega
theorem fw_least {M : Nat → Nat → Option Int} {n z : Nat} {S : Nat → Int} (h : Keeps M S) {j : Nat} {v : Int} (hv : fw M n z j = some v) : S z + v ≤ S j := fw_keeps h n z j v hv

end Hx
end Go.Proofs.YtppcnlkhdgmaiaaDoor
