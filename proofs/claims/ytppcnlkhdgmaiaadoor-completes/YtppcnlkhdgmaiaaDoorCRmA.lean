/- The plain mathematics of the machine: what it does at one look, again and again; what the document says of it, step by step; that they are one. No program is named here. The machine as it lies in memory; what stepIsOver does. -/
import Derived.Test.YtppcnlkhdgmaiaaDoorCScA
import Derived.Lib.ItoaNum
import Derived.Test.YtppcnlkhdgmaiaaDoorCRtD
import Derived.Laws.OwnMore
namespace Go.Proofs.YtppcnlkhdgmaiaaDoor
namespace Hx

/-- The machine: its time, the step that is at work or comes next, whether the arm is at work, what has begun and was over, when each plate's rest began. -/
structure Ms where
  time : Nat
  k : Nat
  work : Bool
  sts : List (Nat × Option Nat)
  rb : List Int

def beganM (m : Ms) : Nat := (m.sts.getD m.k (0, none)).1
def finishM (x : TStp) (tk : Nat) (m : Ms) : Option Nat × Ms :=
  if tk < x.lo then (some 2, { m with sts := m.sts.set m.k (beganM m, some (beganM m + tk)) })
  else if x.hi < tk then (some 3, { m with sts := m.sts.set m.k (beganM m, some (beganM m + tk)) })
  else (none, { m with sts := m.sts.set m.k (beganM m, some (beganM m + tk)), rb := if 0 ≤ x.inn then m.rb.set x.pl ((beganM m + tk : Nat) : Int) else m.rb, work := false, k := m.k + 1 })
def windowB (x : TStp) (rested : Int) : Bool := x.rest && (decide (rested < (x.mn : Int)) || decide ((x.mx : Int) < rested))
def beginM (J : Nat) (x : TStp) (m : Ms) : Option Nat × Ms :=
  if x.t + J < m.time then (some 4, m)
  else if windowB x ((m.time : Int) - m.rb.getD x.pl 0) then (some 5, m)
  else (none, { m with sts := m.sts ++ [(m.time, none)], work := true })
def overM (takes : List Nat) (m : Ms) : Bool := decide (m.k < takes.length) && decide (beganM m + takes.getD m.k 0 ≤ m.time)
/-- One of the cases of a look; none: it is looked again. -/
def oneM (l : List TStp) (J : Nat) (takes : List Nat) (m : Ms) : Option Nat × Ms :=
  match l[m.k]? with
  | none => (some (if m.work then 0 else 1), m)
  | some x =>
    if m.work = true then
      if overM takes m = true then finishM x (takes.getD m.k 0) m
      else if beganM m + x.hi < m.time then (some 3, m) else (some 0, m)
    else if m.time < x.t then (some 0, m)
    else beginM J x m
def muM (l : List TStp) (m : Ms) : Nat := 2 * (l.length - m.k) + (if m.work then 0 else 1)

theorem finishM_none {x : TStp} {tk : Nat} {m m' : Ms} (h : finishM x tk m = (none, m')) : m' = { m with sts := m.sts.set m.k (beganM m, some (beganM m + tk)), rb := if 0 ≤ x.inn then m.rb.set x.pl ((beganM m + tk : Nat) : Int) else m.rb, work := false, k := m.k + 1 } := by
  unfold finishM at h
  split at h
  · cases h
  · split at h
    · cases h
    · cases h; rfl
theorem beginM_none {J : Nat} {x : TStp} {m m' : Ms} (h : beginM J x m = (none, m')) : m' = { m with sts := m.sts ++ [(m.time, none)], work := true } := by
  unfold beginM at h
  split at h
  · cases h
  · split at h
    · cases h
    · cases h; rfl
theorem oneM_mu {l : List TStp} {J : Nat} {takes : List Nat} {m m' : Ms} (h : oneM l J takes m = (none, m')) : muM l m' < muM l m := by
  unfold oneM at h
  cases hl : l[m.k]? with
  | none => rw [hl] at h; cases h
  | some x =>
    have hk : m.k < l.length := by
      rcases Nat.lt_or_ge m.k l.length with g | g
      · exact g
      · rw [List.getElem?_eq_none g] at hl; cases hl
    rw [hl] at h
    simp only at h
    split at h
    · rename_i hw
      split at h
      · rw [finishM_none h]
        simp only [muM, hw]
        simp
        omega
      · split at h <;> cases h
    · rename_i hw
      split at h
      · cases h
      · rw [beginM_none h]
        have hw : m.work = false := by simpa using hw
        simp only [muM, hw]
        simp
theorem oneM_time {l : List TStp} {J : Nat} {takes : List Nat} {m m' : Ms} {r : Option Nat} (h : oneM l J takes m = (r, m')) : m'.time = m.time := by
  unfold oneM at h
  split at h
  · cases h; rfl
  · split at h
    · split at h
      · unfold finishM at h
        split at h
        · cases h; rfl
        · split at h
          · cases h; rfl
          · cases h; rfl
      · split at h
        · cases h; rfl
        · cases h; rfl
    · split at h
      · cases h; rfl
      · unfold beginM at h
        split at h
        · cases h; rfl
        · split at h
          · cases h; rfl
          · cases h; rfl

/-- A look. -/
def lookM (l : List TStp) (J : Nat) (takes : List Nat) (m : Ms) : Nat × Ms :=
  match _h : oneM l J takes m with
  | (some e, m') => (e, m')
  | (none, m') => lookM l J takes m'
termination_by muM l m
decreasing_by exact oneM_mu _h

theorem lookM_some {l : List TStp} {J : Nat} {takes : List Nat} {m m' : Ms} {e : Nat} (h : oneM l J takes m = (some e, m')) : lookM l J takes m = (e, m') := by
  rw [lookM]
  split
  · rename_i h2; rw [h] at h2; cases h2; rfl
  · rename_i h2; rw [h] at h2; cases h2
theorem lookM_none {l : List TStp} {J : Nat} {takes : List Nat} {m m' : Ms} (h : oneM l J takes m = (none, m')) : lookM l J takes m = lookM l J takes m' := by
  rw [lookM]
  split
  · rename_i h2; rw [h] at h2; cases h2
  · rename_i h2; rw [h] at h2; cases h2; rfl

/-- All looks behind one that has ended so. -/
def runM (l : List TStp) (J : Nat) (takes : List Nat) : List Nat → Nat × Ms → Nat × Ms
  | [], r => r
  | c :: cs, r => if r.1 = 0 then runM l J takes cs (lookM l J takes { r.2 with time := r.2.time + c }) else r
theorem runM_end {l : List TStp} {J : Nat} {takes : List Nat} {r : Nat × Ms} (h : r.1 ≠ 0) : ∀ cs, runM l J takes cs r = r
  | [] => rfl
  | _ :: _ => by rw [runM, if_neg h]
theorem runM_cons {l : List TStp} {J : Nat} {takes : List Nat} {r : Nat × Ms} {c : Nat} {cs : List Nat} (h : r.1 = 0) : runM l J takes (c :: cs) r = runM l J takes cs (lookM l J takes { r.2 with time := r.2.time + c }) := by
  rw [runM, if_pos h]
def startM : Ms := ⟨0, 0, false, [], [0, 0, 0, 0]⟩
/-- What the machine comes to. -/
def machF (l : List TStp) (J : Nat) (clock takes : List Nat) : Nat × Ms := runM l J takes clock (lookM l J takes startM)

/-- Texts. -/
def nmB (pl no : Nat) : List UInt8 := [UInt8.ofNat (97 + pl), UInt8.ofNat (48 + no)]
def outB : Nat → List UInt8
  | 0 => [111, 112, 101, 110]
  | 1 => [100, 111, 110, 101]
  | 2 => [115, 104, 111, 114, 116]
  | 3 => [108, 111, 110, 103]
  | 4 => [108, 97, 116, 101]
  | _ => [119, 105, 110, 100, 111, 119]
def stintB (p : Nat × Option Nat) : List UInt8 := Lib.itoa (p.1 : Int) ++ [45] ++ (match p.2 with | some v => Lib.itoa (v : Int) | none => [])
def entB (x : TStp) (p : Nat × Option Nat) : List UInt8 := nmB x.pl x.no ++ [58] ++ stintB p
def joinC : List (List UInt8) → List UInt8
  | [] => []
  | a :: r => a ++ (r.map fun b => 44 :: b).flatten
def evB (l : List TStp) (sts : List (Nat × Option Nat)) : List UInt8 := joinC (List.zipWith entB l sts)
def nameAt (l : List TStp) (k : Nat) : List UInt8 := match l[k]? with | some x => nmB x.pl x.no | none => []
def tellF (l : List TStp) (r : Nat × Ms) : List UInt8 := outB r.1 ++ (if 2 ≤ r.1 then [32] ++ nameAt l r.2.k else []) ++ [59] ++ evB l r.2.sts

theorem joinC_snoc (xs : List (List UInt8)) (y : List UInt8) : joinC (xs ++ [y]) = if xs = [] then y else joinC xs ++ [44] ++ y := by
  cases xs with
  | nil => simp [joinC]
  | cons a r => simp [joinC]
theorem zip_snoc (l : List TStp) (sts : List (Nat × Option Nat)) (x : TStp) (e : Nat × Option Nat) (hx : l[sts.length]? = some x) : List.zipWith entB l (sts ++ [e]) = List.zipWith entB l sts ++ [entB x e] := by
  induction sts generalizing l with
  | nil =>
    cases l with
    | nil => simp at hx
    | cons y r => simp at hx; subst hx; simp
  | cons a r ih =>
    cases l with
    | nil => simp at hx
    | cons y q =>
      simp only [List.cons_append, List.zipWith_cons_cons]
      rw [ih q (by simpa using hx)]
theorem zip_nil_iff (l : List TStp) (sts : List (Nat × Option Nat)) (h : sts.length ≤ l.length) : List.zipWith entB l sts = [] ↔ sts = [] := by
  cases sts with
  | nil => simp
  | cons a r =>
    cases l with
    | nil => simp at h
    | cons y q => simp
theorem evB_snoc (l : List TStp) (sts : List (Nat × Option Nat)) (x : TStp) (e : Nat × Option Nat) (hx : l[sts.length]? = some x) : evB l (sts ++ [e]) = if sts = [] then entB x e else evB l sts ++ [44] ++ entB x e := by
  have hlt : sts.length < l.length := by
    rcases Nat.lt_or_ge sts.length l.length with g | g
    · exact g
    · rw [List.getElem?_eq_none g] at hx; cases hx
  unfold evB
  rw [zip_snoc l sts x e hx, joinC_snoc]
  by_cases h : sts = []
  · rw [if_pos h, if_pos ((zip_nil_iff l sts (by omega)).2 h)]
  · rw [if_neg h, if_neg (fun g => h ((zip_nil_iff l sts (by omega)).1 g))]

/-- The document's joined. -/
def joinB (s t : List UInt8) : List UInt8 := if s = [] then t else s ++ [44] ++ t
theorem evB_nil (l : List TStp) : evB l [] = [] := by simp [evB, joinC]
theorem entB_ne (x : TStp) (e : Nat × Option Nat) : entB x e ≠ [] := by simp [entB, nmB]
theorem evB_ne (l : List TStp) (sts : List (Nat × Option Nat)) (h : sts.length ≤ l.length) (h2 : sts ≠ []) : evB l sts ≠ [] := by
  cases sts with
  | nil => exact absurd rfl h2
  | cons a r =>
    cases l with
    | nil => simp at h
    | cons y q => simp [evB, joinC, entB, nmB]
theorem evB_join (l : List TStp) (sts : List (Nat × Option Nat)) (x : TStp) (e : Nat × Option Nat) (hx : l[sts.length]? = some x) : evB l (sts ++ [e]) = joinB (evB l sts) (entB x e) := by
  have hlt : sts.length < l.length := by
    rcases Nat.lt_or_ge sts.length l.length with g | g
    · exact g
    · rw [List.getElem?_eq_none g] at hx; cases hx
  rw [evB_snoc l sts x e hx]
  unfold joinB
  by_cases h : sts = []
  · rw [if_pos h, if_pos (by rw [h]; exact evB_nil l)]
  · rw [if_neg h, if_neg (evB_ne l sts (by omega) h)]
theorem joinB_app (s t u : List UInt8) : joinB s t ++ u = joinB s (t ++ u) := by
  unfold joinB; split <;> simp

/-- The document's Run, behind the look at which a step begins. -/
def refEnd (L : List Int) (takes : List Nat) (x : TStp) (i : Nat) (now : Int) (told : List UInt8) (a : Nat) (go : Nat → List UInt8 → Int → List UInt8) : List UInt8 :=
  let long := firstF L (now + (x.hi : Int) + 1) a
  let en := if i < takes.length then firstF L (now + ((takes.getD i 0 : Nat) : Int)) a else -1
  if en < 0 ∨ (0 ≤ long ∧ long < en) then
    if 0 ≤ long then outB 3 ++ [32] ++ nmB x.pl x.no ++ [59] ++ told else outB 0 ++ [59] ++ told
  else if takes.getD i 0 < x.lo then outB 2 ++ [32] ++ nmB x.pl x.no ++ [59] ++ (told ++ Lib.itoa (now + ((takes.getD i 0 : Nat) : Int)))
  else if x.hi < takes.getD i 0 then outB 3 ++ [32] ++ nmB x.pl x.no ++ [59] ++ (told ++ Lib.itoa (now + ((takes.getD i 0 : Nat) : Int)))
  else go en.toNat (told ++ Lib.itoa (now + ((takes.getD i 0 : Nat) : Int))) (now + ((takes.getD i 0 : Nat) : Int))
/-- The document's Run, from a step on. -/
def refGo (L : List Int) (J : Nat) (takes : List Nat) : List TStp → Nat → Nat → List UInt8 → List Int → List UInt8
  | [], _, _, told, _ => outB 1 ++ [59] ++ told
  | x :: xs, i, a, told, over =>
    if firstF L (x.t : Int) a < 0 then outB 0 ++ [59] ++ told
    else if (x.t : Int) + (J : Int) < L.getD (firstF L (x.t : Int) a).toNat 0 then outB 4 ++ [32] ++ nmB x.pl x.no ++ [59] ++ told
    else if windowB x (L.getD (firstF L (x.t : Int) a).toNat 0 - over.getD x.pl 0) then outB 5 ++ [32] ++ nmB x.pl x.no ++ [59] ++ told
    else refEnd L takes x i (L.getD (firstF L (x.t : Int) a).toNat 0) (joinB told (nmB x.pl x.no ++ [58] ++ Lib.itoa (L.getD (firstF L (x.t : Int) a).toNat 0) ++ [45])) (firstF L (x.t : Int) a).toNat
      (fun e t o => refGo L J takes xs (i + 1) e t (over.set x.pl o))

/-- The looks. -/
def sumsF (t : Nat) : List Nat → List Int
  | [] => [(t : Int)]
  | c :: cs => (t : Int) :: sumsF (t + c) cs

theorem firstF_here {L : List Int} {k : Nat} {t x : Int} (h : L[k]? = some t) (hx : x ≤ t) : firstF L x k = (k : Int) := by
  obtain ⟨hk, e⟩ := List.getElem?_eq_some_iff.1 h
  rw [firstF, dif_pos hk, if_pos (by rw [e]; exact hx)]
theorem firstF_next {L : List Int} {k : Nat} {t x : Int} (h : L[k]? = some t) (hx : ¬ x ≤ t) : firstF L x k = firstF L x (k + 1) := by
  obtain ⟨hk, e⟩ := List.getElem?_eq_some_iff.1 h
  rw [firstF, dif_pos hk, if_neg (by rw [e]; exact hx)]
theorem firstF_end {L : List Int} {k : Nat} {x : Int} (h : L.length ≤ k) : firstF L x k = -1 := by
  rw [firstF, dif_neg (by omega)]
theorem firstF_ge {L : List Int} {x : Int} (n : Nat) : ∀ k, L.length - k = n → firstF L x k = -1 ∨ (k : Int) ≤ firstF L x k := by
  induction n with
  | zero => intro k hk; exact Or.inl (firstF_end (by omega))
  | succ n ih =>
    intro k hk
    have hlt : k < L.length := by omega
    rw [firstF, dif_pos hlt]
    split
    · exact Or.inr (Int.le_refl _)
    · rcases ih (k + 1) (by omega) with h | h
      · exact Or.inl h
      · exact Or.inr (by omega)

end Hx
end Go.Proofs.YtppcnlkhdgmaiaaDoor
namespace Go.Proofs.YtppcnlkhdgmaiaaDoor
open Go.RowKit

/-- What the machine has seen of a step, as it lies. -/
def stCells (p : Nat × Option Nat) : List Value := [.int .i64 (p.1 : Int), .int .i64 ((p.2.getD 0 : Nat) : Int), .bool p.2.isSome]
def stsCells (l : List (Nat × Option Nat)) : List Value := l.flatMap stCells
theorem stsCells_snoc (l : List (Nat × Option Nat)) (y : Nat × Option Nat) : stsCells (l ++ [y]) = stsCells l ++ stCells y := by simp [stsCells]
theorem stsCells_cons (y : Nat × Option Nat) (l : List (Nat × Option Nat)) : stsCells (y :: l) = stCells y ++ stsCells l := rfl
theorem stCells_one (y : Nat × Option Nat) : ∀ u ∈ stCells y, u.oneCell' = true := by
  intro u hu
  simp only [stCells, List.mem_cons, List.not_mem_nil, or_false] at hu
  rcases hu with rfl | rfl | rfl <;> rfl
theorem stsCells_at (l : List (Nat × Option Nat)) (j : Nat) (x : Nat × Option Nat) (h : l[j]? = some x) (t : Nat) (ht : t < 3) : (stsCells l)[j * 3 + t]? = (stCells x)[t]? := by
  induction l generalizing j with
  | nil => simp at h
  | cons y r ih =>
    rw [stsCells_cons]
    have hl : (stCells y).length = 3 := rfl
    cases j with
    | zero =>
      simp at h
      subst h
      rw [Nat.zero_mul, Nat.zero_add, List.getElem?_append_left (by omega)]
    | succ j =>
      rw [List.getElem?_append_right (by omega), hl, show (j + 1) * 3 + t - 3 = j * 3 + t by omega]
      exact ih j (by simpa using h)
theorem stsCells_set (l : List (Nat × Option Nat)) (j : Nat) (b v : Nat) (o : Option Nat) (h : l[j]? = some (b, o)) : ((stsCells l).set (j * 3 + 1) (.int .i64 (v : Int))).set (j * 3 + 2) (.bool true) = stsCells (l.set j (b, some v)) := by
  induction l generalizing j with
  | nil => simp at h
  | cons y r ih =>
    cases j with
    | zero =>
      simp at h
      subst h
      simp [stsCells_cons, stCells]
    | succ j =>
      rw [List.set_cons_succ, stsCells_cons, stsCells_cons, ← ih j (by simpa using h)]
      have hl : (stCells y).length = 3 := rfl
      rw [List.set_append_right _ _ (by omega), List.set_append_right _ _ (by omega), hl, show (j + 1) * 3 + 1 - 3 = j * 3 + 1 by omega, show (j + 1) * 3 + 2 - 3 = j * 3 + 2 by omega]

/-- What the machine goes by, and where it lies. -/
structure Mh where
  b : Nat
  J : Nat
  tv : Value
  cv : Value
  kv : Value
  l : List Hx.TStp
  clock : List Nat
  takes : List Nat
def machL (h : Mh) (m : Hx.Ms) (sv : Value) : List Value := [.int .i64 (h.J : Int), h.tv, h.cv, h.kv, .int .i64 (m.time : Int), .int .i64 (m.k : Int), .bool m.work, sv] ++ ints m.rb
/-- The machine, as it lies: its block, its row of stints; nothing else that was there has changed. -/
structure Mem (h : Mh) (w0 w : World) (m : Hx.Ms) (sv : Value) (xs : List Value) : Prop where
  blk : w.heap[h.b]? = some (.cells (machL h m sv).toArray 115 (0, 0))
  row : w.ownsRow w0.heap.size 155 3 sv m.sts.length xs
  gr : w0.grownBy w (some h.b)
/-- What lies there for good. -/
structure Stat (h : Mh) (w0 : World) : Prop where
  lt : h.b < w0.heap.size
  t : w0.ownsRow 0 153 11 h.tv h.l.length (ptsCells h.l)
  tb : h.tv.ownBlock = none ∨ h.tv.ownBlock ≠ some h.b
  c : w0.ownsRow 0 3 1 h.cv h.clock.length (ints (nats h.clock))
  cb : h.cv.ownBlock = none ∨ h.cv.ownBlock ≠ some h.b
  k : w0.ownsRow 0 3 1 h.kv h.takes.length (ints (nats h.takes))
  kb : h.kv.ownBlock = none ∨ h.kv.ownBlock ≠ some h.b
  ok : ∀ y ∈ h.l, Hx.TOk y
  ll : h.l.length ≤ 401
  cl : h.clock.length ≤ 1000
  kl : h.takes.length ≤ 1000
  kn : ∀ n ∈ h.takes, n < 1000
  j : h.J < 10
/-- Numbers within bounds. -/
structure MN (m : Hx.Ms) : Prop where
  time : m.time ≤ 1000000
  sts : ∀ p ∈ m.sts, p.1 ≤ 1000000
  len : m.sts.length ≤ 1000
  rb : m.rb.length = 4
  rbs : ∀ r ∈ m.rb, 0 ≤ r ∧ r ≤ 2000000

theorem Mem.drewN {h w0 w m sv xs} (x : Mem h w0 w m sv xs) (n : Nat) : Mem h w0 (w.drewN n) m sv xs := ⟨x.blk, x.row.kept (grown_drewN w n none) (by cases sv.ownBlock <;> simp), grown_trans x.gr (grown_drewN _ _ _)⟩
theorem Mem.alloc {h w0 w m sv xs} (x : Mem h w0 w m sv xs) (o : Obj) : Mem h w0 (w.alloc o) m sv xs := ⟨bA o x.blk, x.row.alloc o, grown_trans x.gr (grown_alloc _ _ _)⟩
theorem Mem.drew {h w0 w m sv xs} (x : Mem h w0 w m sv xs) : Mem h w0 w.drew m sv xs := x.drewN 1
theorem Mem.t {h w0 w m sv xs} (x : Mem h w0 w m sv xs) (s : Stat h w0) : w.ownsRow 0 153 11 h.tv h.l.length (ptsCells h.l) := s.t.kept x.gr s.tb
theorem Mem.tk {h w0 w m sv xs} (x : Mem h w0 w m sv xs) (s : Stat h w0) : w.ownsRow 0 3 1 h.kv h.takes.length (ints (nats h.takes)) := s.k.kept x.gr s.kb
theorem Mem.ck {h w0 w m sv xs} (x : Mem h w0 w m sv xs) (s : Stat h w0) : w.ownsRow 0 3 1 h.cv h.clock.length (ints (nats h.clock)) := s.c.kept x.gr s.cb
theorem Mem.ne {h w0 w m sv xs} (x : Mem h w0 w m sv xs) (s : Stat h w0) {g n cap : Nat} (e : sv = .slice (some ⟨g, 0, none⟩) n cap) : g ≠ h.b := by
  have := (x.row.lt g (by rw [e]; rfl)).1
  have := s.lt
  omega
theorem own_set_low' {w : World} {base : Nat} {e : TypeId} {size : Nat} {v : Value} {n : Nat} {xs : List Value} (h : w.ownsRow base e size v n xs) {k : Nat} (hk : k < base) (o : Nat) (x : Value) : (w.setCell ⟨k, o, none⟩ x).ownsRow base e size v n xs := h.kept (grown_set w k o x) (own_ne h hk)
/-- A cell of the machine's block is stored into. -/
theorem Mem.put {h w0 w m sv xs} (x : Mem h w0 w m sv xs) (s : Stat h w0) (i : Nat) (v : Value) (m' : Hx.Ms) (sv' : Value) (hm : (machL h m sv).set i v = machL h m' sv') (hrow : w.ownsRow w0.heap.size 155 3 sv' m'.sts.length xs) : Mem h w0 (w.setCell ⟨h.b, i, none⟩ v) m' sv' xs := by
  refine ⟨?_, own_set_low' hrow s.lt i v, grown_trans x.gr (grown_set _ _ _ _)⟩
  have := blk_set x.blk i v
  rw [List.setIfInBounds_toArray, hm] at this
  exact this

set_option maxRecDepth 100000 in
set_option maxHeartbeats 4000000 in
theorem over_any (h : Mh) (w0 w : World) (m : Hx.Ms) (sv : Value) (hs : Stat h w0) (hm : Mem h w0 w m sv (stsCells m.sts)) (hk : m.k < m.sts.length) (hn : MN m) :
    Calls Tryd.prog 81 #[.pointer (some ⟨h.b, 0, none⟩)] w fun e w' => e = .returned (.bool (Hx.overM h.takes m)) ∧ ∃ n, w' = w.drewN n := by
  have hb3 : w.cell? ⟨h.b, 3, none⟩ = some h.kv := blk_cell hm.blk 3
  have hb4 : w.cell? ⟨h.b, 4, none⟩ = some (.int .i64 (m.time : Int)) := blk_cell hm.blk 4
  have hb5 : w.cell? ⟨h.b, 5, none⟩ = some (.int .i64 (m.k : Int)) := blk_cell hm.blk 5
  have hb7 : w.cell? ⟨h.b, 7, none⟩ = some sv := blk_cell hm.blk 7
  obtain ⟨g, cap, esv, hg1, hg2⟩ := own_pos hm.row (by omega)
  obtain ⟨p, hp⟩ : ∃ p, m.sts[m.k]? = some p := ⟨_, List.getElem?_eq_getElem hk⟩
  have hbeg : Hx.beganM m = p.1 := by rw [Hx.beganM, List.getD_eq_getElem?_getD, hp]; rfl
  have hp1 := hn.sts p (List.mem_of_getElem? hp)
  have htm := hn.time
  have hlen := hn.len
  rw [esv] at hb7
  have cp : w.cell? ⟨g, m.k * 3, none⟩ = some (.int .i64 (p.1 : Int)) := by
    have hrow := hm.row
    rw [esv] at hrow
    rw [hrow.cellAt (m.k * 3) (by omega)]
    have := stsCells_at m.sts m.k p hp 0 (by omega)
    rw [Nat.add_zero] at this
    rw [this]; rfl
  have hkl := hs.kl
  have hkI : (m.k : Int) < (m.sts.length : Int) := by omega
  obtain ⟨ak, capk, ek⟩ := own_form hs.k
  rw [ek] at hb3
  by_cases h1 : m.k < h.takes.length
  · obtain ⟨tk, htk⟩ : ∃ tk, h.takes[m.k]? = some tk := ⟨_, List.getElem?_eq_getElem h1⟩
    have htk1 := hs.kn tk (List.mem_of_getElem? htk)
    obtain ⟨gk, capk2, ek2, _, _⟩ := own_pos (hm.tk hs) (by omega)
    have ck : w.cell? ⟨gk, m.k, none⟩ = some (.int .i64 (tk : Int)) := by
      have hrow := hm.tk hs
      rw [ek2] at hrow
      rw [hrow.cellAt m.k (by omega)]
      exact ints_at _ _ _ (nats_at _ _ _ htk)
    rw [ek] at ek2
    cases ek2
    have HE : Hid (Hx.overM h.takes m = decide (p.1 + tk ≤ m.time)) := by
      show _ = _
      rw [Hx.overM, hbeg, List.getD_eq_getElem?_getD, htk]
      simp [h1]
    have h1I : ¬ (h.takes.length : Int) ≤ (m.k : Int) := by omega
    have h1J : (m.k : Int) < (h.takes.length : Int) := by omega
    clear hm hs hn hp hbeg htk esv ek h1
    go_enter Tryd.func81, Tryd.ntmps81
    go_wp2_with fail
    go_quiet (fail)
    go_wp2_with fail
    go_quiet (fail)
    go_wp2_with fail
    go_returns
    exact ⟨by rw [unhide HE]; simp; omega, _, World.drewN_drewN ..⟩
  · have HE : Hid (Hx.overM h.takes m = false) := by show _ = _; simp [Hx.overM, h1]
    have h1I : (h.takes.length : Int) ≤ (m.k : Int) := by omega
    clear hm hs hn hp hbeg esv ek h1
    go_enter Tryd.func81, Tryd.ntmps81
    go_wp2_with fail
    go_quiet (fail)
    go_wp2_with fail
    go_returns
    exact ⟨by rw [unhide HE]; rfl, _, rfl⟩

end Go.Proofs.YtppcnlkhdgmaiaaDoor
