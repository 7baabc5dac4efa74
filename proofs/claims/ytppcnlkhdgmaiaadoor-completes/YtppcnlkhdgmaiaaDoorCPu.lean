/- The plain mathematics of raising: rounds over the limits find the least times, if there are any. No program is named here. -/
namespace Go.Proofs.YtppcnlkhdgmaiaaDoor
namespace Hx

/-- A limit: the time at 'to' is at least that at 'fr' and so much more. -/
structure Lim where
  fr : Nat
  to : Nat
  more : Int
def updT (f : Nat → Int) (i : Nat) (v : Int) : Nat → Int := fun p => if p = i then v else f p
/-- One round: the times are raised, limit by limit; was one raised? -/
def raiseF : List Lim → (Nat → Int) → Bool → (Nat → Int) × Bool
  | [], f, b => (f, b)
  | l :: r, f, b => if f l.to < f l.fr + l.more then raiseF r (updT f l.to (f l.fr + l.more)) true else raiseF r f b
/-- Rounds, so many at most, until none is raised. -/
def roundsF (ls : List Lim) : Nat → (Nat → Int) → Option (Nat → Int)
  | 0, _ => none
  | k + 1, f => if (raiseF ls f false).2 then roundsF ls k (raiseF ls f false).1 else some (raiseF ls f false).1
theorem raiseF_drop {ls : List Lim} {k : Nat} {l : Lim} (h : ls[k]? = some l) (f : Nat → Int) (b : Bool) :
    raiseF (ls.drop k) f b = if f l.to < f l.fr + l.more then raiseF (ls.drop (k + 1)) (updT f l.to (f l.fr + l.more)) true else raiseF (ls.drop (k + 1)) f b := by
  have hk : k < ls.length := by
    by_cases e : k < ls.length
    · exact e
    · rw [List.getElem?_eq_none (by omega)] at h; cases h
  have hi : ls[k] = l := by rw [List.getElem?_eq_getElem hk] at h; exact Option.some.inj h
  rw [List.drop_eq_getElem_cons hk, hi, raiseF]

/-- Times that keep all limits, none below 0. -/
def KeepsL (n : Nat) (ls : List Lim) (t : Nat → Int) : Prop := (∀ i, i < n → 0 ≤ t i) ∧ ∀ l ∈ ls, t l.fr + l.more ≤ t l.to
/-- The least of them. -/
def LeastL (n : Nat) (ls : List Lim) (t : Nat → Int) : Prop := KeepsL n ls t ∧ ∀ s, KeepsL n ls s → ∀ i, i < n → t i ≤ s i
def InL (n : Nat) (ls : List Lim) : Prop := ∀ l ∈ ls, l.fr < n ∧ l.to < n

theorem raiseF_true {ls : List Lim} : ∀ {f : Nat → Int}, (raiseF ls f true).2 = true := by
  induction ls with
  | nil => intro f; rfl
  | cons l r ih =>
    intro f
    rw [raiseF]
    split
    · exact ih
    · exact ih
/-- Nothing raised: nothing changed, and all limits hold. -/
theorem raiseF_still {ls : List Lim} : ∀ {f : Nat → Int}, (raiseF ls f false).2 = false → (raiseF ls f false).1 = f ∧ ∀ l ∈ ls, f l.fr + l.more ≤ f l.to := by
  induction ls with
  | nil => intro f _; exact ⟨rfl, by simp⟩
  | cons l r ih =>
    intro f h
    rw [raiseF] at h ⊢
    by_cases hc : f l.to < f l.fr + l.more
    · rw [if_pos hc, raiseF_true] at h; cases h
    · rw [if_neg hc] at h ⊢
      obtain ⟨h1, h2⟩ := ih h
      refine ⟨h1, fun k hk => ?_⟩
      rcases List.mem_cons.1 hk with rfl | hk
      · omega
      · exact h2 k hk
/-- Raising stays at or below every times that keep the limits, and never lowers. -/
theorem raiseF_le {n : Nat} {ls : List Lim} {s : Nat → Int} (hin : InL n ls) (hs : ∀ l ∈ ls, s l.fr + l.more ≤ s l.to) : ∀ {f : Nat → Int} {b : Bool}, (∀ i, i < n → f i ≤ s i) → (∀ i, i < n → (raiseF ls f b).1 i ≤ s i) := by
  induction ls with
  | nil => intro f b h; exact h
  | cons l r ih =>
    intro f b h
    rw [raiseF]
    have hr : InL n r := fun k hk => hin k (by simp [hk])
    have hsr : ∀ l ∈ r, s l.fr + l.more ≤ s l.to := fun k hk => hs k (by simp [hk])
    obtain ⟨h1, h2⟩ := hin l (by simp)
    split
    · refine ih hr hsr fun i hi => ?_
      unfold updT
      split
      · rename_i e; subst e
        have := hs l (by simp)
        have := h l.fr h1
        omega
      · exact h i hi
    · exact ih hr hsr h
theorem raiseF_ge {ls : List Lim} : ∀ {f : Nat → Int} {b : Bool} (i : Nat), f i ≤ (raiseF ls f b).1 i := by
  induction ls with
  | nil => intro f b i; exact Int.le_refl _
  | cons l r ih =>
    intro f b i
    rw [raiseF]
    split
    · rename_i hc
      refine Int.le_trans ?_ (ih i)
      unfold updT
      split
      · rename_i e; subst e; omega
      · exact Int.le_refl _
    · exact ih i
/-- A limit that is met in the round is paid, with what stood at its beginning when the round began. -/
theorem raiseF_pays {ls : List Lim} : ∀ {f : Nat → Int} {b : Bool} {l : Lim}, l ∈ ls → f l.fr + l.more ≤ (raiseF ls f b).1 l.to := by
  induction ls with
  | nil => intro f b l h; cases h
  | cons k r ih =>
    intro f b l h
    rw [raiseF]
    rcases List.mem_cons.1 h with rfl | h
    · split
      · refine Int.le_trans ?_ (raiseF_ge _)
        simp [updT]
      · rename_i hc
        refine Int.le_trans ?_ (raiseF_ge _)
        omega
    · split
      · rename_i hc
        refine Int.le_trans ?_ (ih h)
        have : f l.fr ≤ updT f k.to (f k.fr + k.more) l.fr := by
          unfold updT
          split
          · rename_i e; rw [e]; omega
          · exact Int.le_refl _
        omega
      · exact ih h

/-- How many of the first n are settled. -/
def settled (t f : Nat → Int) : Nat → Nat
  | 0 => 0
  | n + 1 => settled t f n + (if f n = t n then 1 else 0)
theorem settled_le (t f : Nat → Int) : ∀ n, settled t f n ≤ n
  | 0 => Nat.le_refl _
  | n + 1 => by have := settled_le t f n; rw [settled]; split <;> omega
theorem settled_mono {t f g : Nat → Int} : ∀ n, (∀ i, i < n → f i = t i → g i = t i) → settled t f n ≤ settled t g n
  | 0, _ => Nat.le_refl _
  | n + 1, h => by
    have := settled_mono n (fun i hi => h i (by omega))
    have h2 := h n (by omega)
    rw [settled, settled]
    by_cases e : f n = t n
    · rw [if_pos e, if_pos (h2 e)]; omega
    · rw [if_neg e]; split <;> omega
theorem settled_more {t f g : Nat → Int} : ∀ n, (∀ i, i < n → f i = t i → g i = t i) → (∃ i, i < n ∧ f i ≠ t i ∧ g i = t i) → settled t f n < settled t g n
  | 0, _, h => by obtain ⟨i, hi, _⟩ := h; omega
  | n + 1, h, hx => by
    obtain ⟨i, hi, h1, h2⟩ := hx
    rw [settled, settled]
    by_cases e : i = n
    · subst e
      have := settled_mono i (fun j hj => h j (by omega))
      rw [if_neg h1, if_pos h2]; omega
    · have := settled_more n (fun j hj => h j (by omega)) ⟨i, by omega, h1, h2⟩
      have h3 := h n (by omega)
      by_cases e2 : f n = t n
      · rw [if_pos e2, if_pos (h3 e2)]; omega
      · rw [if_neg e2]; split <;> omega
theorem settled_all {t f : Nat → Int} : ∀ n, settled t f n = n → ∀ i, i < n → f i = t i
  | 0, _ => fun i hi => by omega
  | n + 1, h => by
    intro i hi
    have h1 := settled_le t f n
    rw [settled] at h
    by_cases e : f n = t n
    · rw [if_pos e] at h
      by_cases e2 : i = n
      · subst e2; exact e
      · exact settled_all n (by omega) i (by omega)
    · rw [if_neg e] at h; omega
/-- With the least times not yet reached, some limit leads from what is settled to what is not, and is tight. -/
theorem tight_limit {n : Nat} {ls : List Lim} {t f : Nat → Int} (ht : LeastL n ls t) (hf0 : ∀ i, i < n → 0 ≤ f i) (hft : ∀ i, i < n → f i ≤ t i) (hx : ∃ i, i < n ∧ f i ≠ t i) :
    ∃ l ∈ ls, f l.fr = t l.fr ∧ f l.to ≠ t l.to ∧ t l.fr + l.more = t l.to := by
  apply Classical.byContradiction
  intro hno
  -- lower the unsettled by one: it still keeps all limits
  have hk : KeepsL n ls (fun i => if f i = t i then t i else t i - 1) := by
    refine ⟨fun i hi => ?_, fun l hl => ?_⟩
    · show 0 ≤ if f i = t i then t i else t i - 1
      have h1 := hf0 i hi
      have h2 := hft i hi
      split
      · omega
      · omega
    · show (if f l.fr = t l.fr then t l.fr else t l.fr - 1) + l.more ≤ if f l.to = t l.to then t l.to else t l.to - 1
      have hkl := ht.1.2 l hl
      by_cases e1 : f l.fr = t l.fr
      · by_cases e2 : f l.to = t l.to
        · rw [if_pos e1, if_pos e2]; exact hkl
        · rw [if_pos e1, if_neg e2]
          by_cases e3 : t l.fr + l.more = t l.to
          · exact absurd ⟨l, hl, e1, e2, e3⟩ hno
          · omega
      · rw [if_neg e1]; split <;> omega
  obtain ⟨i, hi, hne⟩ := hx
  have := ht.2 _ hk i hi
  simp only [if_neg hne] at this
  omega
/-- One round settles one more, as long as one is left. -/
theorem raise_settles {n : Nat} {ls : List Lim} {t f : Nat → Int} {b : Bool} (ht : LeastL n ls t) (hf0 : ∀ i, i < n → 0 ≤ f i) (hft : ∀ i, i < n → f i ≤ t i) (hin : InL n ls) (hx : ∃ i, i < n ∧ f i ≠ t i) :
    settled t f n < settled t (raiseF ls f b).1 n := by
  have hup := raiseF_le (b := b) hin ht.1.2 hft
  refine settled_more n (fun i hi e => ?_) ?_
  · have h1 := raiseF_ge (ls := ls) (f := f) (b := b) i
    have h2 := hup i hi
    omega
  · obtain ⟨l, hl, h1, h2, h3⟩ := tight_limit ht hf0 hft hx
    have h4 := raiseF_pays (f := f) (b := b) hl
    have h5 := hup l.to (hin l hl).2
    exact ⟨l.to, (hin l hl).2, h2, by omega⟩
/-- As many rounds as there are times: the least ones are found, if there are any. -/
theorem roundsF_least {n : Nat} {ls : List Lim} {t : Nat → Int} (ht : LeastL n ls t) (hin : InL n ls) : ∀ (k : Nat) (f : Nat → Int), (∀ i, i < n → 0 ≤ f i) → (∀ i, i < n → f i ≤ t i) → n < k + settled t f n → 0 < k →
    ∃ g, roundsF ls k f = some g ∧ ∀ i, i < n → g i = t i
  | 0, _, _, _, _, h => absurd h (by omega)
  | k + 1, f, hf0, hft, hk, _ => by
    by_cases hall : ∀ i, i < n → f i = t i
    · -- nothing is raised any more
      have hst : (raiseF ls f false).2 = false ∧ (raiseF ls f false).1 = f := by
        have hle : ∀ l ∈ ls, f l.fr + l.more ≤ f l.to := fun l hl => by rw [hall _ (hin l hl).1, hall _ (hin l hl).2]; exact ht.1.2 l hl
        have : ∀ (r : List Lim), (∀ l ∈ r, f l.fr + l.more ≤ f l.to) → raiseF r f false = (f, false) := by
          intro r
          induction r with
          | nil => intro _; rfl
          | cons l r ih =>
            intro h
            rw [raiseF, if_neg (by have := h l (by simp); omega)]
            exact ih fun m hm => h m (by simp [hm])
        rw [this ls hle]; exact ⟨rfl, rfl⟩
      exact ⟨f, by rw [roundsF, hst.1, hst.2]; simp, hall⟩
    · have hx : ∃ i, i < n ∧ f i ≠ t i := by
        apply Classical.byContradiction
        intro hno
        apply hall
        intro i hi
        apply Classical.byContradiction
        intro e
        exact hno ⟨i, hi, e⟩
      cases hr : (raiseF ls f false).2 with
      | false =>
        -- nothing raised: f keeps all limits, so it is the least
        obtain ⟨h1, h2⟩ := raiseF_still hr
        refine absurd ?_ hall
        intro i hi
        have := ht.2 f ⟨hf0, h2⟩ i hi
        have := hft i hi
        omega
      | true =>
        have hs := raise_settles (b := false) ht hf0 hft hin hx
        have h0' : ∀ i, i < n → 0 ≤ (raiseF ls f false).1 i := fun i hi => Int.le_trans (hf0 i hi) (raiseF_ge i)
        have ht' := raiseF_le (b := false) hin ht.1.2 hft
        have hsl := settled_le t (raiseF ls f false).1 n
        by_cases hk0 : k = 0
        · -- no round is left: then all were settled but none
          exfalso
          subst hk0
          have h1 : settled t f n = n := by have := settled_le t f n; omega
          obtain ⟨i, hi, hne⟩ := hx
          exact hne (settled_all n h1 i hi)
        · obtain ⟨g, hg, hgt⟩ := roundsF_least ht hin k _ h0' ht' (by omega) (by omega)
          exact ⟨g, by rw [roundsF, hr]; simpa using hg, hgt⟩
/-- What the rounds answer keeps all limits, and is the least. -/
theorem roundsF_some {n : Nat} {ls : List Lim} (hin : InL n ls) : ∀ (k : Nat) (f g : Nat → Int), (∀ i, i < n → 0 ≤ f i) → (∀ s, KeepsL n ls s → ∀ i, i < n → f i ≤ s i) → roundsF ls k f = some g → LeastL n ls g
  | 0, _, _, _, _, h => by cases h
  | k + 1, f, g, h0, hs, h => by
    rw [roundsF] at h
    cases hr : (raiseF ls f false).2 with
    | false =>
      rw [hr] at h
      simp at h
      obtain ⟨h1, h2⟩ := raiseF_still hr
      rw [h1] at h
      subst h
      exact ⟨⟨h0, h2⟩, hs⟩
    | true =>
      rw [hr] at h
      simp at h
      exact roundsF_some hin k _ g (fun i hi => Int.le_trans (h0 i hi) (raiseF_ge i)) (fun s hk => raiseF_le hin hk.2 (hs s hk)) h
/-- Of n times, n rounds from 0 on answer the least times, or there are none. -/
theorem roundsF_none {n : Nat} {ls : List Lim} (hin : InL n ls) (hn : 0 < n) (h : roundsF ls n (fun _ => 0) = none) : ∀ t, ¬ LeastL n ls t := by
  intro t ht
  obtain ⟨g, hg, _⟩ : ∃ g, roundsF ls n (fun _ => 0) = some g ∧ ∀ i, i < n → g i = t i := by
    by_cases hs : settled t (fun _ => 0) n = 0
    · -- none is settled at first: then all could be lowered by one
      exfalso
      have hall : ∀ i, i < n → (0 : Int) ≠ t i := by
        have : ∀ m, settled t (fun _ => 0) m = 0 → ∀ i, i < m → (0 : Int) ≠ t i := by
          intro m
          induction m with
          | zero => intro _ i hi; omega
          | succ m ih =>
            intro h i hi
            rw [settled] at h
            by_cases e : (0 : Int) = t m
            · rw [if_pos e] at h; omega
            · rw [if_neg e] at h
              by_cases e2 : i = m
              · subst e2; exact e
              · exact ih (by omega) i (by omega)
        exact this n hs
      obtain ⟨l, hl, h1, _⟩ := tight_limit ht (f := fun _ => 0) (fun _ _ => Int.le_refl _) (fun i hi => ht.1.1 i hi) ⟨0, hn, hall 0 hn⟩
      exact hall _ (hin l hl).1 h1
    · exact roundsF_least ht hin n (fun _ => 0) (fun _ _ => Int.le_refl _) (fun i hi => ht.1.1 i hi) (by omega) hn
  rw [h] at hg; cases hg
theorem LeastL.unique {n : Nat} {ls : List Lim} {t s : Nat → Int} (h : LeastL n ls t) (g : LeastL n ls s) : ∀ i, i < n → t i = s i := fun i hi => by
  have h1 := h.2 s g.1 i hi
  have h2 := g.2 t h.1 i hi
  omega

end Hx
end Go.Proofs.YtppcnlkhdgmaiaaDoor
