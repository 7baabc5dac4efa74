/- What the document's Run does, from the first step on. -/
import Derived.Test.YtppcnlkhdgmaiaaDoorCRrB
import Derived.Test.YtppcnlkhdgmaiaaDoorCPz
import Derived.Test.YtppcnlkhdgmaiaaDoorCRtD
import Derived.Deep.RegionHeld3
namespace Go.Proofs.YtppcnlkhdgmaiaaDoor
open Go.RowKit

theorem cN' {w : World} {p : Addr} {v : Value} (n : Nat) (h : w.cell? p = some v) : (w.drewN n).cell? p = some v := h
theorem cS' {w : World} {b i g j : Nat} {v x : Value} (hne : b ≠ g) (h : w.cell? ⟨b, i, none⟩ = some v) : (w.setCell ⟨g, j, none⟩ x).cell? ⟨b, i, none⟩ = some v := (grown_set w g j x).cell h (by simpa using hne)
theorem cBl {w w2 : World} {p : Addr} {v : Value} (hb : Below w.heap.size w w2) (h : w.cell? p = some v) : w2.cell? p = some v := by
  rw [hb.cell (World.block_lt_of_cell? w p h)]; exact h
theorem bBl {w w2 : World} {k : Nat} {o : Obj} (hb : Below w.heap.size w w2) (h : w.heap[k]? = some o) : w2.heap[k]? = some o := (hb.block _ (lt_of_block h)).trans h
theorem blB {w W W2 : World} (hb : Below W.heap.size W W2) (h : Below w.heap.size w W) : Below w.heap.size w W2 := h.trans (hb.mono h.size)

def Hx.refRunF (s t : ByteArray) : List UInt8 × Int :=
  if 400 < s.size ∨ 800 < t.size then ([], 1) else if (Hx.lookF s).1 ≠ 0 then ([], (Hx.lookF s).1) else if Hx.scrOk t = false then ([], 10)
  else (Hx.refGo (Hx.lookL (Hx.scr1 t).1) (Hx.theadF s).1 (Hx.scr2 t).1 (Hx.tableF s).2 0 0 [] [0, 0, 0, 0], 0)

theorem str1 (a b : List UInt8) : (⟨a.toArray⟩ : ByteArray) ++ ⟨b.toArray⟩ = ⟨(a ++ b).toArray⟩ := bytes_app a b
theorem tup_str {a b : ByteArray} {v : Value} (h : a = b) : Ending.returned (.tuple #[.string a, v]) = .returned (.tuple #[.string b, v]) := by rw [h]

theorem Hx.numsF_lt {s : ByteArray} (n : Nat) : ∀ (st : Hx.St) (acc : List Nat), s.size - st.pos = n → (∀ v ∈ acc, v < 1000) → ∀ v ∈ (Hx.numsF s st acc).1, v < 1000 := by
  induction n using Nat.strongRecOn with
  | ind n ih =>
    intro st acc hn h
    have hG := Hx.numF_ge s 3 st
    have hV := Hx.numF_val s 3 st
    have hacc : ∀ v ∈ acc ++ [(Hx.numF s 3 st).1], v < 1000 := fun v hv => by
      rcases List.mem_append.1 hv with hv | hv
      · exact h v hv
      · rw [List.mem_singleton.1 hv]; exact hV
    rw [Hx.numsF]
    split
    · exact h
    · split
      · rename_i hq
        obtain ⟨_, _, h3, h4⟩ := Hx.nextF_in (by omega) hq
        rw [h4]
        exact ih (s.size - ((Hx.numF s 3 st).2.pos + 1)) (by omega) _ _ rfl hacc
      · exact hacc
theorem Hx.numbersF_lt {s : ByteArray} {c : Nat} {st : Hx.St} : ∀ v ∈ (Hx.numbersF s c st).1, v < 1000 := by
  unfold Hx.numbersF
  split
  · intro v hv; cases hv
  · exact Hx.numsF_lt _ st [] rfl (fun v hv => by cases hv)
theorem sum_le_mul (l : List Nat) (h : ∀ v ∈ l, v < 1000) : l.sum ≤ 1000 * l.length := by
  induction l with
  | nil => simp
  | cons a l ih =>
    have h1 := h a (by simp)
    have h2 := ih (fun v hv => h v (by simp [hv]))
    rw [List.sum_cons, List.length_cons]; omega
theorem Hx.right_of {s : ByteArray} (h : Hx.wrongF (Hx.tableF s).2 0 = (0, 0)) : Hx.Right (Hx.tableF s).2 := by
  refine ⟨Hx.tableF_ok s, ?_⟩
  have key : ∀ (l : List Hx.TStp) (n k : Nat), l.length - k = n → Hx.wrongF l k = (0, 0) → ∀ j, k ≤ j → j < l.length → Hx.rightF l j = true := by
    intro l n
    induction n with
    | zero => intro k hk _ j h1 h2; omega
    | succ n ih =>
      intro k hk hw j h1 h2
      have hlt : k < l.length := by omega
      rw [Hx.wrongF_step hlt] at hw
      cases hr : Hx.rightF l k
      · rw [hr] at hw
        have h9 : (9 : Int) = 0 := congrArg Prod.fst hw
        omega
      · rw [hr] at hw
        by_cases e : j = k
        · subst e; exact hr
        · exact ih (k + 1) (by omega) hw j (by omega) h2
  intro k hk
  exact key _ _ 0 rfl h k (Nat.zero_le _) hk
theorem Hx.look_ok {s : ByteArray} (hs : s.size ≤ 400) (h : (Hx.lookF s).1 = 0) : (Hx.tableF s).1.bad = false ∧ Hx.wrongF (Hx.tableF s).2 0 = (0, 0) := by
  rw [Hx.lookF, if_neg (by omega)] at h
  cases hb : (Hx.tableF s).1.bad
  · rw [hb] at h
    refine ⟨rfl, ?_⟩
    have h : (Hx.wrongF (Hx.tableF s).2 0).1 = 0 := h
    have key : ∀ (l : List Hx.TStp) (n k : Nat), l.length - k = n → (Hx.wrongF l k).1 = 0 → Hx.wrongF l k = (0, 0) := by
      intro l n
      induction n with
      | zero => intro k hk _; exact Hx.wrongF_end (by omega)
      | succ n ih =>
        intro k hk h1
        have hlt : k < l.length := by omega
        rw [Hx.wrongF_step hlt] at h1 ⊢
        cases hr : Hx.rightF l k
        · rw [hr] at h1; have h9 : (9 : Int) = 0 := h1; omega
        · rw [hr] at h1; exact ih (k + 1) (by omega) h1
    exact key _ _ 0 rfl h
  · rw [hb] at h
    have h9 : (2 : Int) = 0 := h
    omega

theorem Hx.go_open {L J takes x xs i a told over} (h : Hx.firstF L (x.t : Int) a = -1) : Hx.refGo L J takes (x :: xs) i a told over = Hx.outB 0 ++ [59] ++ told := by
  rw [Hx.refGo, h, if_pos (by decide)]
theorem Hx.go_late {L : List Int} {J : Nat} {takes : List Nat} {x : Hx.TStp} {xs : List Hx.TStp} {i a a' now : Nat} {told : List UInt8} {over : List Int} (h : Hx.firstF L (x.t : Int) a = (a' : Int)) (hn : L[a']? = some (now : Int)) (hl : x.t + J < now) : Hx.refGo L J takes (x :: xs) i a told over = Hx.outB 4 ++ [32] ++ Hx.nmB x.pl x.no ++ [59] ++ told := by
  rw [Hx.refGo, h, if_neg (by omega), Int.toNat_natCast, List.getD_eq_getElem?_getD, hn, Option.getD_some, if_pos (by omega)]
theorem Hx.go_window {L : List Int} {J : Nat} {takes : List Nat} {x : Hx.TStp} {xs : List Hx.TStp} {i a a' now : Nat} {told : List UInt8} {over : List Int} (h : Hx.firstF L (x.t : Int) a = (a' : Int)) (hn : L[a']? = some (now : Int)) (hl : ¬ x.t + J < now) (hw : Hx.windowB x ((now : Int) - over.getD x.pl 0) = true) : Hx.refGo L J takes (x :: xs) i a told over = Hx.outB 5 ++ [32] ++ Hx.nmB x.pl x.no ++ [59] ++ told := by
  rw [Hx.refGo, h, if_neg (by omega), Int.toNat_natCast, List.getD_eq_getElem?_getD (l := L), hn, Option.getD_some, if_neg (by omega), if_pos hw]
theorem Hx.go_begin {L : List Int} {J : Nat} {takes : List Nat} {x : Hx.TStp} {xs : List Hx.TStp} {i a a' now : Nat} {told : List UInt8} {over : List Int} (h : Hx.firstF L (x.t : Int) a = (a' : Int)) (hn : L[a']? = some (now : Int)) (hl : ¬ x.t + J < now) (hw : Hx.windowB x ((now : Int) - over.getD x.pl 0) = false) :
    Hx.refGo L J takes (x :: xs) i a told over = Hx.refEnd L takes x i (now : Int) (Hx.joinB told (Hx.nmB x.pl x.no ++ [58] ++ Lib.itoa (now : Int) ++ [45])) a' (fun e t o => Hx.refGo L J takes xs (i + 1) e t (over.set x.pl o)) := by
  rw [Hx.refGo, h, if_neg (by omega), Int.toNat_natCast, List.getD_eq_getElem?_getD (l := L), hn, Option.getD_some, if_neg (by omega), if_neg (by rw [hw]; decide)]
/-- What the look that sees a step over is. -/
def Hx.enF (L : List Int) (takes : List Nat) (i : Nat) (now : Int) (a : Nat) : Int := if i < takes.length then Hx.firstF L (now + ((takes.getD i 0 : Nat) : Int)) a else -1
theorem Hx.end_long {L takes x i now told a go} (h : Hx.enF L takes i now a < 0 ∨ (0 ≤ Hx.firstF L (now + (x.hi : Int) + 1) a ∧ Hx.firstF L (now + (x.hi : Int) + 1) a < Hx.enF L takes i now a)) (h2 : 0 ≤ Hx.firstF L (now + (x.hi : Int) + 1) a) : Hx.refEnd L takes x i now told a go = Hx.outB 3 ++ [32] ++ Hx.nmB x.pl x.no ++ [59] ++ told := by
  unfold Hx.enF at h
  rw [Hx.refEnd]
  rw [if_pos h, if_pos h2]
theorem Hx.end_open {L takes x i now told a go} (h : Hx.enF L takes i now a < 0) (h2 : ¬ 0 ≤ Hx.firstF L (now + (x.hi : Int) + 1) a) : Hx.refEnd L takes x i now told a go = Hx.outB 0 ++ [59] ++ told := by
  unfold Hx.enF at h
  rw [Hx.refEnd]
  rw [if_pos (Or.inl h), if_neg h2]
theorem Hx.end_over {L : List Int} {takes : List Nat} {x : Hx.TStp} {i : Nat} {now : Int} {told : List UInt8} {a : Nat} {go : Nat → List UInt8 → Int → List UInt8} {en tk : Nat} (h : Hx.enF L takes i now a = (en : Int)) (h2 : ¬ (0 ≤ Hx.firstF L (now + (x.hi : Int) + 1) a ∧ Hx.firstF L (now + (x.hi : Int) + 1) a < (en : Int))) (ht : takes.getD i 0 = tk) :
    Hx.refEnd L takes x i now told a go = if tk < x.lo then Hx.outB 2 ++ [32] ++ Hx.nmB x.pl x.no ++ [59] ++ (told ++ Lib.itoa (now + (tk : Int))) else if x.hi < tk then Hx.outB 3 ++ [32] ++ Hx.nmB x.pl x.no ++ [59] ++ (told ++ Lib.itoa (now + (tk : Int))) else go en (told ++ Lib.itoa (now + (tk : Int))) (now + (tk : Int)) := by
  unfold Hx.enF at h
  rw [Hx.refEnd]
  rw [ht] at h ⊢
  rw [h, if_neg (by omega), Int.toNat_natCast]

theorem arr_cell {w : World} {g : Nat} {zs : List Int} {T : TypeId} {j : Nat} {v : Int} (h : w.heap[g]? = some (.cells (ints zs).toArray T (0, 0))) (hv : zs[j]? = some v) : w.cell? ⟨g, j, none⟩ = some (.int .i64 v) := by
  rw [blk_cell h j, List.getElem?_toArray]
  exact ints_at _ _ _ hv
theorem Hx.go_on {p q : Prop} [Decidable p] [Decidable q] {A B C F : List UInt8} (h : (if p then A else if q then B else C) = F) (hp : ¬ p) (hq : ¬ q) : C = F := by
  rw [if_neg hp, if_neg hq] at h; exact h
theorem joinB_len (s t : List UInt8) : (Hx.joinB s t).length ≤ s.length + 1 + t.length := by
  unfold Hx.joinB
  split
  · omega
  · simp; omega
/-- Texts as the document puts them together. -/
theorem txt_open (told : List UInt8) : (⟨#[111, 112, 101, 110, 59]⟩ : ByteArray) ++ ⟨told.toArray⟩ = ⟨(Hx.outB 0 ++ [59] ++ told).toArray⟩ := by
  apply ByteArray.ext; rw [ByteArray.data_append]; simp [Hx.outB]
theorem txt_done (told : List UInt8) : (⟨#[100, 111, 110, 101, 59]⟩ : ByteArray) ++ ⟨told.toArray⟩ = ⟨(Hx.outB 1 ++ [59] ++ told).toArray⟩ := by
  apply ByteArray.ext; rw [ByteArray.data_append]; simp [Hx.outB]
theorem txt_short (p q : UInt8) (told : List UInt8) : (⟨#[115, 104, 111, 114, 116, 32]⟩ : ByteArray) ++ ⟨#[p, q]⟩ ++ ⟨#[59]⟩ ++ ⟨told.toArray⟩ = ⟨(Hx.outB 2 ++ [32] ++ [p, q] ++ [59] ++ told).toArray⟩ := by
  apply ByteArray.ext; simp only [ByteArray.data_append]; simp [Hx.outB]
theorem txt_long (p q : UInt8) (told : List UInt8) : (⟨#[108, 111, 110, 103, 32]⟩ : ByteArray) ++ ⟨#[p, q]⟩ ++ ⟨#[59]⟩ ++ ⟨told.toArray⟩ = ⟨(Hx.outB 3 ++ [32] ++ [p, q] ++ [59] ++ told).toArray⟩ := by
  apply ByteArray.ext; simp only [ByteArray.data_append]; simp [Hx.outB]
theorem txt_late (p q : UInt8) (told : List UInt8) : (⟨#[108, 97, 116, 101, 32]⟩ : ByteArray) ++ ⟨#[p, q]⟩ ++ ⟨#[59]⟩ ++ ⟨told.toArray⟩ = ⟨(Hx.outB 4 ++ [32] ++ [p, q] ++ [59] ++ told).toArray⟩ := by
  apply ByteArray.ext; simp only [ByteArray.data_append]; simp [Hx.outB]
theorem txt_window (p q : UInt8) (told : List UInt8) : (⟨#[119, 105, 110, 100, 111, 119, 32]⟩ : ByteArray) ++ ⟨#[p, q]⟩ ++ ⟨#[59]⟩ ++ ⟨told.toArray⟩ = ⟨(Hx.outB 5 ++ [32] ++ [p, q] ++ [59] ++ told).toArray⟩ := by
  apply ByteArray.ext; simp only [ByteArray.data_append]; simp [Hx.outB]
theorem txt_ent (p q : UInt8) (d : List UInt8) : (⟨#[p, q]⟩ : ByteArray) ++ ⟨#[58]⟩ ++ ⟨d.toArray⟩ ++ ⟨#[45]⟩ = ⟨([p, q] ++ [58] ++ d ++ [45]).toArray⟩ := by
  apply ByteArray.ext; simp only [ByteArray.data_append]; simp

end Go.Proofs.YtppcnlkhdgmaiaaDoor
