/- What the document's Run does, from the first step on. -/
import Derived.Test.YtppcnlkhdgmaiabGreatDoorCRrB
import Derived.Test.YtppcnlkhdgmaiabGreatDoorCRmF
import Derived.Test.YtppcnlkhdgmaiabGreatDoorCRtD
import Derived.Deep.RegionHeld3
namespace Go.Proofs.YtppcnlkhdgmaiabGreatDoor
open Go.RowKit

theorem cN' {w : World} {p : Addr} {v : Value} (n : Nat) (h : w.cell? p = some v) : (w.drewN n).cell? p = some v := h
theorem cS' {w : World} {b i g j : Nat} {v x : Value} (hne : b ≠ g) (h : w.cell? ⟨b, i, none⟩ = some v) : (w.setCell ⟨g, j, none⟩ x).cell? ⟨b, i, none⟩ = some v := (grown_set w g j x).cell h (by simpa using hne)
theorem cBl {w w2 : World} {p : Addr} {v : Value} (hb : Below w.heap.size w w2) (h : w.cell? p = some v) : w2.cell? p = some v := by
  rw [hb.cell (World.block_lt_of_cell? w p h)]; exact h
theorem bBl {w w2 : World} {k : Nat} {o : Obj} (hb : Below w.heap.size w w2) (h : w.heap[k]? = some o) : w2.heap[k]? = some o := (hb.block _ (lt_of_block h)).trans h
theorem blB {w W W2 : World} (hb : Below W.heap.size W W2) (h : Below w.heap.size w W) : Below w.heap.size w W2 := h.trans (hb.mono h.size)

def Hx.refRunF (s t : ByteArray) : List UInt8 × Int :=
  if 400 < s.size ∨ 800 < t.size then ([], 1) else if (Hx.lookF s).1 ≠ 0 then ([], (Hx.lookF s).1) else if Hx.scrOk t = false then ([], 10)
  else (Hx.refGo (Hx.lookL (Hx.scr1 t).1) (Hx.theadF s).1 (Hx.scr2 t).1 (Hx.tableF s).2 0 0 [] [0, 0, 0, 0], 0)

theorem str1 (a b : List UInt8) : (⟨a.toArray⟩ : ByteArray) ++ ⟨b.toArray⟩ = ⟨(a ++ b).toArray⟩ := bytes_app a b
theorem tup_str {a b : ByteArray} {v : Value} (h : a = b) : Ending.returned (.tuple #[.string a, v]) = .returned (.tuple #[.string b, v]) := by rw [h]

theorem Hx.numsF_lt {s : ByteArray} (n : Nat) : ∀ (st : Hx.St) (acc : List Nat), s.size - st.pos = n → (∀ v ∈ acc, v < 1000) → ∀ v ∈ (Hx.numsF s st acc).1, v < 1000 := by
  induction n using Nat.strongRecOn with
  | ind n ih =>
    intro st acc hn h
    have hG := Hx.numF_ge s 3 st
    have hV := Hx.numF_val s 3 st
    have hacc : ∀ v ∈ acc ++ [(Hx.numF s 3 st).1], v < 1000 := fun v hv => by
      rcases List.mem_append.1 hv with hv | hv
      · exact h v hv
      · rw [List.mem_singleton.1 hv]; exact hV
    rw [Hx.numsF]
    split
    · exact h
    · split
      · rename_i hq
        obtain ⟨_, _, h3, h4⟩ := Hx.nextF_in (by omega) hq
        rw [h4]
        exact ih (s.size - ((Hx.numF s 3 st).2.pos + 1)) (by omega) _ _ rfl hacc
      · exact hacc
theorem Hx.numbersF_lt {s : ByteArray} {c : Nat} {st : Hx.St} : ∀ v ∈ (Hx.numbersF s c st).1, v < 1000 := by
  unfold Hx.numbersF
  split
  · intro v hv; cases hv
  · exact Hx.numsF_lt _ st [] rfl (fun v hv => by cases hv)
theorem sum_le_mul (l : List Nat) (h : ∀ v ∈ l, v < 1000) : l.sum ≤ 1000 * l.length := by
  induction l with
  | nil => simp
  | cons a l ih =>
    have h1 := h a (by simp)
    have h2 := ih (fun v hv => h v (by simp [hv]))
    rw [List.sum_cons, List.length_cons]; omega
theorem Hx.right_of {s : ByteArray} (h : Hx.wrongF (Hx.tableF s).2 0 = (0, 0)) : Hx.Right (Hx.tableF s).2 := by
  refine ⟨Hx.tableF_ok s, ?_⟩
  have key : ∀ (l : List Hx.TStp) (n k : Nat), l.length - k = n → Hx.wrongF l k = (0, 0) → ∀ j, k ≤ j → j < l.length → Hx.rightF l j = true := by
    intro l n
    induction n with
    | zero => intro k hk _ j h1 h2; omega
    | succ n ih =>
      intro k hk hw j h1 h2
      have hlt : k < l.length := by omega
      rw [Hx.wrongF_step hlt] at hw
      cases hr : Hx.rightF l k
      · rw [hr] at hw
        have h9 : (9 : Int) = 0 := congrArg Prod.fst hw
        omega
      · rw [hr] at hw
        by_cases e : j = k
        · subst e; exact hr
        · exact ih (k + 1) (by omega) hw j (by omega) h2
  intro k hk
  exact key _ _ 0 rfl h k (Nat.zero_le _) hk
theorem Hx.look_ok {s : ByteArray} (hs : s.size ≤ 400) (h : (Hx.lookF s).1 = 0) : (Hx.tableF s).1.bad = false ∧ Hx.wrongF (Hx.tableF s).2 0 = (0, 0) := by
  rw [Hx.lookF, if_neg (by omega)] at h
  cases hb : (Hx.tableF s).1.bad
  · rw [hb] at h
    refine ⟨rfl, ?_⟩
    have h : (Hx.wrongF (Hx.tableF s).2 0).1 = 0 := h
    have key : ∀ (l : List Hx.TStp) (n k : Nat), l.length - k = n → (Hx.wrongF l k).1 = 0 → Hx.wrongF l k = (0, 0) := by
      intro l n
      induction n with
      | zero => intro k hk _; exact Hx.wrongF_end (by omega)
      | succ n ih =>
        intro k hk h1
        have hlt : k < l.length := by omega
        rw [Hx.wrongF_step hlt] at h1 ⊢
        cases hr : Hx.rightF l k
        · rw [hr] at h1; have h9 : (9 : Int) = 0 := h1; omega
        · rw [hr] at h1; exact ih (k + 1) (by omega) h1
    exact key _ _ 0 rfl h
  · rw [hb] at h
    have h9 : (2 : Int) = 0 := h
    omega

theorem Hx.go_open {L J takes x xs i a told over} (h : Hx.firstF L (x.t : Int) a = -1) : Hx.refGo L J takes (x :: xs) i a told over = Hx.outB 0 ++ [59] ++ told := by
  rw [Hx.refGo, h, if_pos (by decide)]
theorem Hx.go_late {L : List Int} {J : Nat} {takes : List Nat} {x : Hx.TStp} {xs : List Hx.TStp} {i a a' now : Nat} {told : List UInt8} {over : List Int} (h : Hx.firstF L (x.t : Int) a = (a' : Int)) (hn : L[a']? = some (now : Int)) (hl : x.t + J < now) : Hx.refGo L J takes (x :: xs) i a told over = Hx.outB 4 ++ [32] ++ Hx.nmB x.pl x.no ++ [59] ++ told := by
  rw [Hx.refGo, h, if_neg (by omega), Int.toNat_natCast, List.getD_eq_getElem?_getD, hn, Option.getD_some, if_pos (by omega)]
theorem Hx.go_window {L : List Int} {J : Nat} {takes : List Nat} {x : Hx.TStp} {xs : List Hx.TStp} {i a a' now : Nat} {told : List UInt8} {over : List Int} (h : Hx.firstF L (x.t : Int) a = (a' : Int)) (hn : L[a']? = some (now : Int)) (hl : ¬ x.t + J < now) (hw : Hx.windowB x ((now : Int) - over.getD x.pl 0) = true) : Hx.refGo L J takes (x :: xs) i a told over = Hx.outB 5 ++ [32] ++ Hx.nmB x.pl x.no ++ [59] ++ told := by
  rw [Hx.refGo, h, if_neg (by omega), Int.toNat_natCast, List.getD_eq_getElem?_getD (l := L), hn, Option.getD_some, if_neg (by omega), if_pos hw]
theorem Hx.go_begin {L : List Int} {J : Nat} {takes : List Nat} {x : Hx.TStp} {xs : List Hx.TStp} {i a a' now : Nat} {told : List UInt8} {over : List Int} (h : Hx.firstF L (x.t : Int) a = (a' : Int)) (hn : L[a']? = some (now : Int)) (hl : ¬ x.t + J < now) (hw : Hx.windowB x ((now : Int) - over.getD x.pl 0) = false) :
    Hx.refGo L J takes (x :: xs) i a told over = Hx.refEnd L takes x i (now : Int) (Hx.joinB told (Hx.nmB x.pl x.no ++ [58] ++ Lib.itoa (now : Int) ++ [45])) a' (fun e t o => Hx.refGo L J takes xs (i + 1) e t (over.set x.pl o)) := by
  rw [Hx.refGo, h, if_neg (by omega), Int.toNat_natCast, List.getD_eq_getElem?_getD (l := L), hn, Option.getD_some, if_neg (by omega), if_neg (by rw [hw]; decide)]
/-- What the look that sees a step over is. -/
def Hx.enF (L : List Int) (takes : List Nat) (i : Nat) (now : Int) (a : Nat) : Int := if i < takes.length then Hx.firstF L (now + ((takes.getD i 0 : Nat) : Int)) a else -1
theorem Hx.end_long {L takes x i now told a go} (h : Hx.enF L takes i now a < 0 ∨ (0 ≤ Hx.firstF L (now + (x.hi : Int) + 1) a ∧ Hx.firstF L (now + (x.hi : Int) + 1) a < Hx.enF L takes i now a)) (h2 : 0 ≤ Hx.firstF L (now + (x.hi : Int) + 1) a) : Hx.refEnd L takes x i now told a go = Hx.outB 3 ++ [32] ++ Hx.nmB x.pl x.no ++ [59] ++ told := by
  unfold Hx.enF at h
  rw [Hx.refEnd]
  rw [if_pos h, if_pos h2]
theorem Hx.end_open {L takes x i now told a go} (h : Hx.enF L takes i now a < 0) (h2 : ¬ 0 ≤ Hx.firstF L (now + (x.hi : Int) + 1) a) : Hx.refEnd L takes x i now told a go = Hx.outB 0 ++ [59] ++ told := by
  unfold Hx.enF at h
  rw [Hx.refEnd]
  rw [if_pos (Or.inl h), if_neg h2]
theorem Hx.end_over {L : List Int} {takes : List Nat} {x : Hx.TStp} {i : Nat} {now : Int} {told : List UInt8} {a : Nat} {go : Nat → List UInt8 → Int → List UInt8} {en tk : Nat} (h : Hx.enF L takes i now a = (en : Int)) (h2 : ¬ (0 ≤ Hx.firstF L (now + (x.hi : Int) + 1) a ∧ Hx.firstF L (now + (x.hi : Int) + 1) a < (en : Int))) (ht : takes.getD i 0 = tk) :
    Hx.refEnd L takes x i now told a go = if tk < x.lo then Hx.outB 2 ++ [32] ++ Hx.nmB x.pl x.no ++ [59] ++ (told ++ Lib.itoa (now + (tk : Int))) else if x.hi < tk then Hx.outB 3 ++ [32] ++ Hx.nmB x.pl x.no ++ [59] ++ (told ++ Lib.itoa (now + (tk : Int))) else go en (told ++ Lib.itoa (now + (tk : Int))) (now + (tk : Int)) := by
  unfold Hx.enF at h
  rw [Hx.refEnd]
  rw [ht] at h ⊢
  rw [h, if_neg (by omega), Int.toNat_natCast]

theorem tsname_at (y : Hx.TStp) (rb : Bool) (p q : UInt8) (w : World) (h : Hx.TOk y) (hpq : Hx.nmB y.pl y.no = [p, q]) : Calls Tryz.prog 21 #[.agg #[.int .i64 (y.pl : Int), .int .i64 (y.no : Int), .int .i64 (y.lo : Int), .int .i64 (y.hi : Int), .bool rb, .int .i64 (y.mn : Int), .int .i64 (y.mx : Int), .int .i64 (y.t : Int), .int .i64 y.out, .int .i64 y.inn]] w fun e w' => e = .returned (.string ⟨#[p, q]⟩) ∧ Below w.heap.size w w' := by
  refine (name_any ⟨y.pl, y.no, ⟨y.lo, y.hi, rb, y.mn, y.mx⟩⟩ (y.t : Int) y.out y.inn w (by have := h.pl; simp only; omega) (by have := h.no; simp only; omega)).mono ?_
  rintro e w' ⟨rfl, hb⟩
  refine ⟨?_, hb⟩
  simp only
  rw [nameB_nm _ _ h.no, hpq]
theorem joined_at (told D : List UInt8) (T : ByteArray) (w : World) (hT : T = ⟨D.toArray⟩) (h1 : told.length ≤ 100000) (h2 : D.length ≤ 100000) : Calls Tryz.prog 35 #[.string ⟨told.toArray⟩, .string T] w fun e w' => e = .returned (.string ⟨(Hx.joinB told D).toArray⟩) ∧ Below w.heap.size w w' := by
  subst hT
  refine (joined_any ⟨told.toArray⟩ ⟨D.toArray⟩ w h1 h2).mono ?_
  rintro e w' ⟨rfl, hb⟩
  exact ⟨by rw [joined_list], hb⟩
theorem arr_cell {w : World} {g : Nat} {zs : List Int} {T : TypeId} {j : Nat} {v : Int} (h : w.heap[g]? = some (.cells (ints zs).toArray T (0, 0))) (hv : zs[j]? = some v) : w.cell? ⟨g, j, none⟩ = some (.int .i64 v) := by
  rw [blk_cell h j, List.getElem?_toArray]
  exact ints_at _ _ _ hv
theorem Hx.go_on {p q : Prop} [Decidable p] [Decidable q] {A B C F : List UInt8} (h : (if p then A else if q then B else C) = F) (hp : ¬ p) (hq : ¬ q) : C = F := by
  rw [if_neg hp, if_neg hq] at h; exact h
theorem joinB_len (s t : List UInt8) : (Hx.joinB s t).length ≤ s.length + 1 + t.length := by
  unfold Hx.joinB
  split
  · omega
  · simp; omega
/-- Texts as the document puts them together. -/
theorem txt_open (told : List UInt8) : (⟨#[111, 112, 101, 110, 59]⟩ : ByteArray) ++ ⟨told.toArray⟩ = ⟨(Hx.outB 0 ++ [59] ++ told).toArray⟩ := by
  apply ByteArray.ext; rw [ByteArray.data_append]; simp [Hx.outB]
theorem txt_done (told : List UInt8) : (⟨#[100, 111, 110, 101, 59]⟩ : ByteArray) ++ ⟨told.toArray⟩ = ⟨(Hx.outB 1 ++ [59] ++ told).toArray⟩ := by
  apply ByteArray.ext; rw [ByteArray.data_append]; simp [Hx.outB]
theorem txt_short (p q : UInt8) (told : List UInt8) : (⟨#[115, 104, 111, 114, 116, 32]⟩ : ByteArray) ++ ⟨#[p, q]⟩ ++ ⟨#[59]⟩ ++ ⟨told.toArray⟩ = ⟨(Hx.outB 2 ++ [32] ++ [p, q] ++ [59] ++ told).toArray⟩ := by
  apply ByteArray.ext; simp only [ByteArray.data_append]; simp [Hx.outB]
theorem txt_long (p q : UInt8) (told : List UInt8) : (⟨#[108, 111, 110, 103, 32]⟩ : ByteArray) ++ ⟨#[p, q]⟩ ++ ⟨#[59]⟩ ++ ⟨told.toArray⟩ = ⟨(Hx.outB 3 ++ [32] ++ [p, q] ++ [59] ++ told).toArray⟩ := by
  apply ByteArray.ext; simp only [ByteArray.data_append]; simp [Hx.outB]
theorem txt_late (p q : UInt8) (told : List UInt8) : (⟨#[108, 97, 116, 101, 32]⟩ : ByteArray) ++ ⟨#[p, q]⟩ ++ ⟨#[59]⟩ ++ ⟨told.toArray⟩ = ⟨(Hx.outB 4 ++ [32] ++ [p, q] ++ [59] ++ told).toArray⟩ := by
  apply ByteArray.ext; simp only [ByteArray.data_append]; simp [Hx.outB]
theorem txt_window (p q : UInt8) (told : List UInt8) : (⟨#[119, 105, 110, 100, 111, 119, 32]⟩ : ByteArray) ++ ⟨#[p, q]⟩ ++ ⟨#[59]⟩ ++ ⟨told.toArray⟩ = ⟨(Hx.outB 5 ++ [32] ++ [p, q] ++ [59] ++ told).toArray⟩ := by
  apply ByteArray.ext; simp only [ByteArray.data_append]; simp [Hx.outB]
theorem txt_ent (p q : UInt8) (d : List UInt8) : (⟨#[p, q]⟩ : ByteArray) ++ ⟨#[58]⟩ ++ ⟨d.toArray⟩ ++ ⟨#[45]⟩ = ⟨([p, q] ++ [58] ++ d ++ [45]).toArray⟩ := by
  apply ByteArray.ext; simp only [ByteArray.data_append]; simp

set_option maxRecDepth 100000 in
set_option maxHeartbeats 8000000 in
theorem refrun_all (s t : ByteArray) (w : World) (hs : s.size ≤ maxLen) (ht : t.size ≤ maxLen) :
    Calls Tryz.prog 14 #[.string s, .string t] w fun e w' => e = .returned (.tuple #[.string ⟨(Hx.refRunF s t).1.toArray⟩, .int .i64 (Hx.refRunF s t).2]) ∧ Below w.heap.size w w' := by
  unfold maxLen at hs ht
  obtain ⟨FIN, hFIN⟩ : ∃ FIN, FIN = Hx.refRunF s t := ⟨_, rfl⟩
  rw [← hFIN]
  go_enter Tryz.func14, Tryz.ntmps14
  by_cases hb1 : 400 < s.size
  · have HF : Hid (FIN = ([], 1)) := by show _ = _; rw [hFIN, Hx.refRunF, if_pos (Or.inl hb1)]
    have hbI : (400 : Int) < (s.size : Int) := by omega
    clear hFIN hb1
    go_wp2_with fail
    go_returns
    exact ⟨by rw [unhide HF]; rfl, Below.refl _ _⟩
  · have hbI : ¬ (400 : Int) < (s.size : Int) := by omega
    by_cases hb2 : 800 < t.size
    · have HF : Hid (FIN = ([], 1)) := by show _ = _; rw [hFIN, Hx.refRunF, if_pos (Or.inr hb2)]
      have hbJ : (800 : Int) < (t.size : Int) := by omega
      clear hFIN hb1 hb2
      go_wp2_with fail
      go_returns
      exact ⟨by rw [unhide HF]; rfl, Below.refl _ _⟩
    · have hbJ : ¬ (800 : Int) < (t.size : Int) := by omega
      have hs4 : s.size ≤ 400 := by omega
      have ht8 : t.size ≤ 800 := by omega
      have hF2 : FIN = if (Hx.lookF s).1 ≠ 0 then ([], (Hx.lookF s).1) else if Hx.scrOk t = false then ([], 10) else (Hx.refGo (Hx.lookL (Hx.scr1 t).1) (Hx.theadF s).1 (Hx.scr2 t).1 (Hx.tableF s).2 0 0 [] [0, 0, 0, 0], 0) := by rw [hFIN, Hx.refRunF, if_neg (by omega)]
      have HF2 := hide hF2
      clear hFIN hF2 hb1 hb2
      go_upto_region 4 with (go_at_call 12; refine (reflook_any s _ (by omega)).mono ?_; rintro e w1 ⟨rfl, hb1⟩; have HB1 := hide hb1; clear hb1)
      by_cases hl0 : (Hx.lookF s).1 = 0
      · have hl0I : ((Hx.lookF s).1 != 0) = false := by simp [hl0]
        have HL0 := hide hl0
        clear hl0
        go_upto_region 7 with (go_at_call 32; refine (script_any t _ (by omega)).mono ?_; rintro e w2 ⟨hb2, va, vb, rfl, hva, hvb, hla, hlb⟩; have HB2 := hide (blB hb2 (unhide HB1)); have HVA := hide (own_mono hva (Nat.zero_le _)); have HVB := hide (own_mono hvb (Nat.zero_le _)); clear hb2 hva hvb)
        cases hok : Hx.scrOk t
        · have HF : Hid (FIN = ([], 10)) := by show _ = _; rw [unhide HF2, if_neg (by rw [unhide HL0]; decide), if_pos hok]
          clear hok
          go_wp2_with fail
          go_returns
          exact ⟨by rw [unhide HF]; rfl, unhide HB2⟩
        · have HF3 : Hid (FIN = (Hx.refGo (Hx.lookL (Hx.scr1 t).1) (Hx.theadF s).1 (Hx.scr2 t).1 (Hx.tableF s).2 0 0 [] [0, 0, 0, 0], 0)) := by show _ = _; rw [unhide HF2, if_neg (by rw [unhide HL0]; decide), if_neg (by rw [hok]; decide)]
          clear hok HF2
          obtain ⟨hbad, hwr⟩ := Hx.look_ok hs4 (unhide HL0)
          have HRT := hide (Hx.right_of hwr)
          obtain ⟨l, hl⟩ : ∃ l, l = (Hx.tableF s).2 := ⟨_, rfl⟩
          obtain ⟨J, hJ⟩ : ∃ J, J = (Hx.theadF s).1 := ⟨_, rfl⟩
          obtain ⟨clock, hck⟩ : ∃ clock, clock = (Hx.scr1 t).1 := ⟨_, rfl⟩
          obtain ⟨takes, htk⟩ : ∃ takes, takes = (Hx.scr2 t).1 := ⟨_, rfl⟩
          have hcs : clock.sum ≤ 1000000 := by
            have := sum_le_mul (Hx.scr1 t).1 (fun v hv => Hx.numbersF_lt v hv)
            rw [← hck] at this hla
            omega
          have htl : ∀ v ∈ takes, v < 1000 := by rw [htk]; exact fun v hv => Hx.numbersF_lt v hv
          have hJ10 : J < 10 := by rw [hJ]; exact Hx.numF_val s 1 _
          have HTB := hide (table_any s w2 (by omega))
          rw [← hl, ← hJ, ← hck, ← htk] at HF3
          rw [← hl] at HRT HTB
          rw [← hJ] at HTB
          rw [← hck] at HVA hla
          rw [← htk] at HVB hlb
          obtain ⟨ava, cva, rfl⟩ := own_form (unhide HVA)
          obtain ⟨avb, cvb, rfl⟩ := own_form (unhide HVB)
          have HBAD := hide hbad
          have HCS := hide hcs
          have HTL := hide htl
          clear hbad hwr hl hJ hck htk hcs htl HL0
          have HLK := hide (fun W h1 => looks_any clock (.slice ava clock.length cva) W h1 (by omega) (unhide HCS))
          have HTB2 : Hid (Calls Tryz.prog 27 #[.string s] w2 fun e w' => Below w2.heap.size w2 w' ∧ ∃ a3 c3, e = .returned (.tuple #[.agg #[.int .i64 (J : Int), .int .i64 0, .int .i64 0, .slice a3 l.length c3, .int .i64 0], .int .i64 (-1)]) ∧ w'.ownsRow 0 53 10 (.slice a3 l.length c3) l.length (tssCells l) ∧ l.length ≤ 1001) := (unhide HTB).mono (by
            rintro e w3 ⟨hb3, ⟨hbd, _⟩ | ⟨_, v3, rfl, hv3, hl3⟩⟩
            · rw [unhide HBAD] at hbd; cases hbd
            · obtain ⟨a3, c3, rfl⟩ := own_form hv3
              exact ⟨hb3, a3, c3, rfl, own_mono hv3 (Nat.zero_le _), hl3⟩)
          clear HTB
          go_upto_region 10 with (go_at_call 27; refine (unhide HTB2).mono ?_; rintro e w3 ⟨hb3, a3, c3, rfl, hv3, hl3⟩; have HB3 := hide hb3; have HV3 := hide hv3; clear hb3 hv3)
          have HPB := hide (bN #[.int .i64 (J : Int), .int .i64 0, .int .i64 0, .slice a3 l.length c3, .int .i64 0] 49 (w := w3) rfl)
          have HV3a := hide ((unhide HV3).alloc (.cells #[.int .i64 (J : Int), .int .i64 0, .int .i64 0, .slice a3 l.length c3, .int .i64 0] 49))
          have HVAa := hide ((own_below (unhide HVA) (unhide HB3)).alloc (.cells #[.int .i64 (J : Int), .int .i64 0, .int .i64 0, .slice a3 l.length c3, .int .i64 0] 49))
          have HVBa := hide ((own_below (unhide HVB) (unhide HB3)).alloc (.cells #[.int .i64 (J : Int), .int .i64 0, .int .i64 0, .slice a3 l.length c3, .int .i64 0] 49))
          have HB3a := hide (belA (.cells #[.int .i64 (J : Int), .int .i64 0, .int .i64 0, .slice a3 l.length c3, .int .i64 0] 49) (blB (unhide HB3) (unhide HB2)))
          obtain ⟨pb, hpb⟩ : ∃ pb, pb = w3.heap.size := ⟨_, rfl⟩
          rw [← hpb] at HPB ⊢
          clear hpb HV3 HVA HVB HB3 HB2 HB1 HTB2
          generalize w3.alloc (.cells #[.int .i64 (J : Int), .int .i64 0, .int .i64 0, .slice a3 l.length c3, .int .i64 0] 49) = w4 at *
          go_upto_region 13 with (go_at_call 33; refine (unhide HLK _ (unhide HVAa)).mono ?_; rintro e w5 ⟨v5, rfl, hv5, hb5⟩; obtain ⟨a5, c5, rfl⟩ := own_form hv5; have HB5 := hide hb5; have HV5 := hide (own_mono hv5 (Nat.zero_le _)); clear hb5 hv5)
          have HPB5 := hide (bBl (unhide HB5) (unhide HPB))
          have HST := hide (own_below (unhide HV3a) (unhide HB5))
          have HTK := hide (own_below (unhide HVBa) (unhide HB5))
          have HB0 := hide (blB (unhide HB5) (unhide HB3a))
          clear HPB HV3a HVAa HVBa HB3a HB5 HLK
          obtain ⟨L, hL⟩ : ∃ L, L = Hx.lookL clock := ⟨_, rfl⟩
          have hLl : L.length = clock.length + 1 := by rw [hL, Hx.lookL, Hx.sumsF_len]
          have HLB : Hid (∀ v ∈ L, ∃ n : Nat, v = (n : Int) ∧ n ≤ 1000000) := fun v hv => by
            rw [hL] at hv
            obtain ⟨n, e, h⟩ := Hx.sumsF_bound 0 clock v hv
            exact ⟨n, e, by have := unhide HCS; omega⟩
          rw [← hL] at HV5 HF3
          rw [← hLl] at HV5 ⊢
          have HLL := hide hLl
          clear hL hLl
          have HOB := hide (bN #[.int .i64 0, .int .i64 0, .int .i64 0, .int .i64 0] 89 (w := w5) rfl)
          have HOBE := hide (belA (.cells #[.int .i64 0, .int .i64 0, .int .i64 0, .int .i64 0] 89) (Below.refl w5.heap.size w5))
          go_upto_region 14 with fail
          generalize w5.alloc (.cells #[.int .i64 0, .int .i64 0, .int .i64 0, .int .i64 0] 89) = w6 at *
          go_wp2_with fail
          go_loopg [14, 15, 17] l.length (fun gk s14 s15 s17 wr => ∃ (i a : Nat) (told : List UInt8) (over : List Int), i ≤ l.length ∧ gk = l.length - i ∧ s17 = .int .i64 (i : Int) ∧ s14 = .int .i64 (a : Int) ∧ a < L.length ∧ s15 = .string ⟨told.toArray⟩ ∧ told.length ≤ 60 * i ∧ over.length = 4 ∧ (∀ r ∈ over, 0 ≤ r ∧ r ≤ 2000000) ∧ Hx.refGo L J takes (l.drop i) i a told over = FIN.1 ∧ wr.heap[w5.heap.size]? = some (.cells (ints over).toArray 89 (0, 0)) ∧ Below w5.heap.size w5 wr)
          case atStart =>
            refine ⟨0, 0, [], [0, 0, 0, 0], Nat.zero_le _, rfl, rfl, rfl, by have := unhide HLL; omega, rfl, by simp, rfl, ?_, by rw [unhide HF3]; rfl, unhide HOB, unhide HOBE⟩
            intro r hr
            simp at hr
            omega
          case round =>
            clear HOB HOBE
            obtain ⟨i, a, told, over, hi, rfl, rfl, rfl, ha, rfl, htold, hov4, hovb, hfin, hob, hbe⟩ := hrel
            have p0 : wr.cell? ⟨pb, 0, none⟩ = some (.int .i64 (J : Int)) := cBl hbe (blk_cell (unhide HPB5) 0)
            have p3 : wr.cell? ⟨pb, 3, none⟩ = some (.slice a3 l.length c3) := cBl hbe (blk_cell (unhide HPB5) 3)
            have HF2 : Hid (FIN.2 = 0) := by show _ = _; rw [unhide HF3]
            by_cases hlt : i < l.length
            · obtain ⟨x, hx⟩ : ∃ x, l[i]? = some x := ⟨_, List.getElem?_eq_getElem hlt⟩
              have hxok := (unhide HRT).ok x (List.mem_of_getElem? hx)
              have HXOK := hide hxok
              obtain ⟨p8, q8, hpq⟩ : ∃ p8 q8, Hx.nmB x.pl x.no = [p8, q8] := ⟨_, _, rfl⟩
              have HPQ := hide hpq
              clear hpq
              have hpl := hxok.pl
              have hxt := hxok.t
              have hxh := hxok.hi
              rw [Hx.drop_cons' hx] at hfin
              have HFIN := hide hfin
              obtain ⟨gs, cs, es, _, _⟩ := own_pos (unhide HST) (by omega)
              cases es
              obtain ⟨q0, q1, q2, q3, q4, q5, q6, q7, q8, q9⟩ := ts_cells (own_below (unhide HST) hbe) hx
              have hltI : (i : Int) < (l.length : Int) := by omega
              have hi0 : (0 : Int) ≤ (i : Int) := by omega
              have HXB := hide (bN #[.int .i64 (x.pl : Int), .int .i64 (x.no : Int), .int .i64 (x.lo : Int), .int .i64 (x.hi : Int), .bool x.rest, .int .i64 (x.mn : Int), .int .i64 (x.mx : Int), .int .i64 (x.t : Int), .int .i64 x.out, .int .i64 x.inn] 53 (w := wr) rfl)
              have HOB := hide (bA (.cells #[.int .i64 (x.pl : Int), .int .i64 (x.no : Int), .int .i64 (x.lo : Int), .int .i64 (x.hi : Int), .bool x.rest, .int .i64 (x.mn : Int), .int .i64 (x.mx : Int), .int .i64 (x.t : Int), .int .i64 x.out, .int .i64 x.inn] 53) hob)
              have HBE := hide (belA (.cells #[.int .i64 (x.pl : Int), .int .i64 (x.no : Int), .int .i64 (x.lo : Int), .int .i64 (x.hi : Int), .bool x.rest, .int .i64 (x.mn : Int), .int .i64 (x.mx : Int), .int .i64 (x.t : Int), .int .i64 x.out, .int .i64 x.inn] 53) hbe)
              have hobs : w5.heap.size < wr.heap.size := lt_of_block hob
              obtain ⟨tb, htb⟩ : ∃ tb, tb = wr.heap.size := ⟨_, rfl⟩
              clear hfin hob hbe hx hxok
              go_upto_region 18 with fail
              rw [← htb] at HXB hobs ⊢
              clear htb q0 q1 q2 q3 q4 q5 q6 q7 q8 q9 p0 p3
              generalize wr.alloc (.cells #[.int .i64 (x.pl : Int), .int .i64 (x.no : Int), .int .i64 (x.lo : Int), .int .i64 (x.hi : Int), .bool x.rest, .int .i64 (x.mn : Int), .int .i64 (x.mx : Int), .int .i64 (x.t : Int), .int .i64 x.out, .int .i64 x.inn] 53) = wx at *
              have x7 : wx.cell? ⟨tb, 7, none⟩ = some (.int .i64 (x.t : Int)) := blk_cell (unhide HXB) 7
              go_upto_region 19 with (go_at_call 34; refine (lookfirst_any L _ a _ _ wx (own_below (unhide HV5) (unhide HBE)) (by have := unhide HLL; omega) (by omega) rfl).mono ?_; rintro e wy ⟨rfl, hby⟩; have HXY := hide (bBl hby (unhide HXB)); have HOY := hide (bBl hby (unhide HOB)); have HBY := hide (blB hby (unhide HBE)); clear hby)
              clear x7 HXB HOB HBE
              have p0 : wy.cell? ⟨pb, 0, none⟩ = some (.int .i64 (J : Int)) := cBl (unhide HBY) (blk_cell (unhide HPB5) 0)
              have x0 : wy.cell? ⟨tb, 0, none⟩ = some (.int .i64 (x.pl : Int)) := blk_cell (unhide HXY) 0
              have x1 : wy.cell? ⟨tb, 1, none⟩ = some (.int .i64 (x.no : Int)) := blk_cell (unhide HXY) 1
              have x2 : wy.cell? ⟨tb, 2, none⟩ = some (.int .i64 (x.lo : Int)) := blk_cell (unhide HXY) 2
              have x3 : wy.cell? ⟨tb, 3, none⟩ = some (.int .i64 (x.hi : Int)) := blk_cell (unhide HXY) 3
              have x4 : wy.cell? ⟨tb, 4, none⟩ = some (.bool x.rest) := blk_cell (unhide HXY) 4
              have x5 : wy.cell? ⟨tb, 5, none⟩ = some (.int .i64 (x.mn : Int)) := blk_cell (unhide HXY) 5
              have x6 : wy.cell? ⟨tb, 6, none⟩ = some (.int .i64 (x.mx : Int)) := blk_cell (unhide HXY) 6
              have x7 : wy.cell? ⟨tb, 7, none⟩ = some (.int .i64 (x.t : Int)) := blk_cell (unhide HXY) 7
              have x8 : wy.cell? ⟨tb, 8, none⟩ = some (.int .i64 x.out) := blk_cell (unhide HXY) 8
              have x9 : wy.cell? ⟨tb, 9, none⟩ = some (.int .i64 x.inn) := blk_cell (unhide HXY) 9
              rcases Hx.firstF_cases L (x.t : Int) _ a rfl with hf | ⟨a', hf, haa, hal⟩
              · have HEND : Hid (FIN = (Hx.outB 0 ++ [59] ++ told, 0)) := by
                  show _ = _
                  rw [← unhide HF2, ← Hx.go_open (J := J) (takes := takes) (xs := l.drop (i + 1)) (i := i) (over := over) hf, unhide HFIN]
                rw [hf]
                clear hf
                go_wp2_with fail
                all_goals first | omega | skip
                go_returns
                rw [unhide HEND]
                exact ⟨tup_str (txt_open _), (unhide HB0).trans ((unhide HBY).mono (unhide HB0).size)⟩
              · obtain ⟨now, hnow, hnb⟩ := unhide HLB L[a'] (List.getElem_mem hal)
                have hln : L[a']? = some (now : Int) := by rw [List.getElem?_eq_getElem hal, hnow]
                have HLN := hide hln
                have HFI := hide hf
                rw [hf]
                obtain ⟨gL, cL, eL, _, _⟩ := own_pos (unhide HV5) (by have := unhide HLL; omega)
                cases eL
                have cN : wy.cell? ⟨gL, a', none⟩ = some (.int .i64 (now : Int)) := by
                  have h1 := own_below (unhide HV5) (unhide HBY)
                  rw [h1.cellAt a' (by omega)]
                  exact ints_at _ _ _ hln
                have haI : (a' : Int) < (L.length : Int) := by omega
                have ha0 : ¬ (a' : Int) < 0 := by omega
                clear hnow hln hf
                obtain ⟨ov, hov⟩ : ∃ ov, over[x.pl]? = some ov := ⟨_, List.getElem?_eq_getElem (by omega)⟩
                have hovd : over.getD x.pl 0 = ov := by rw [List.getD_eq_getElem?_getD, hov]; rfl
                have hovr := hovb ov (List.mem_of_getElem? hov)
                have co : wy.cell? ⟨w5.heap.size, x.pl, none⟩ = some (.int .i64 ov) := by
                  rw [blk_cell (unhide HOY) x.pl, List.getElem?_toArray]
                  exact ints_at _ _ _ hov
                have hplI : (x.pl : Int) < 4 := by omega
                have HOVQ := hide hov
                clear hov
                by_cases hlate : x.t + J < now
                · have HEND : Hid (FIN = (Hx.outB 4 ++ [32] ++ [p8, q8] ++ [59] ++ told, 0)) := by
                    show _ = _
                    rw [← unhide HF2, ← unhide HPQ, ← Hx.go_late (takes := takes) (xs := l.drop (i + 1)) (i := i) (over := over) (unhide HFI) (unhide HLN) hlate, unhide HFIN]
                  have hlI : (x.t : Int) + (J : Int) < (now : Int) := by omega
                  clear hlate
                  go_wp2_with (go_at_call 21; refine (tsname_at x _ p8 q8 _ (unhide HXOK) (unhide HPQ)).mono ?_; rintro e w9 ⟨rfl, hb9⟩; have HB9 := hide (blB hb9 (unhide HBY)); clear hb9)
                  all_goals first | omega | skip
                  go_returns
                  rw [unhide HEND]
                  exact ⟨tup_str (txt_late _ _ _), (unhide HB0).trans ((unhide HB9).mono (unhide HB0).size)⟩
                · have hlI : ¬ (x.t : Int) + (J : Int) < (now : Int) := by omega
                  go_upto_region 24 with fail
                  cases hwd : Hx.windowB x ((now : Int) - ov)
                  · have hfin2 := unhide HFIN
                    rw [Hx.go_begin (unhide HFI) (unhide HLN) hlate (by rw [hovd]; exact hwd)] at hfin2
                    have HFIN2 := hide hfin2
                    have hcase : x.rest = false ∨ (x.rest = true ∧ ¬ (now : Int) - ov < (x.mn : Int) ∧ ¬ (x.mx : Int) < (now : Int) - ov) := by
                      cases hre : x.rest
                      · exact Or.inl rfl
                      · rw [Hx.windowB, hre, Bool.true_and] at hwd
                        simp at hwd
                        exact Or.inr ⟨rfl, by omega, by omega⟩
                    clear hwd hfin2 hlate HFIN HFI HLN hovd
                    go_cut [114] (fun s114 wc => s114 = .bool false ∧ wc.heap[tb]? = some (.cells #[.int .i64 (x.pl : Int), .int .i64 (x.no : Int), .int .i64 (x.lo : Int), .int .i64 (x.hi : Int), .bool x.rest, .int .i64 (x.mn : Int), .int .i64 (x.mx : Int), .int .i64 (x.t : Int), .int .i64 x.out, .int .i64 x.inn] 53 (0, 0)) ∧ wc.heap[w5.heap.size]? = some (.cells (ints over).toArray 89 (0, 0)) ∧ Below w5.heap.size w5 wc)
                    case first =>
                      rcases hcase with hre | ⟨hre, hmn, hmx⟩
                      all_goals
                        rw [hre] at x4
                        go_quiet (fail)
                        go_wp2_with fail
                        go_meet
                        case rel => exact ⟨rfl, unhide HXY, unhide HOY, belN _ (unhide HBY)⟩
                    case rest =>
                      obtain ⟨rfl, hxz, hoz, hbz⟩ := hcut
                      have HXz := hide hxz
                      have HOz := hide hoz
                      have HBz := hide hbz
                      clear x0 x1 x2 x3 x4 x5 x6 x7 x8 x9 p0 cN co hxz hoz hbz HXY HOY HBY
                      have x0 : wc.cell? ⟨tb, 0, none⟩ = some (.int .i64 (x.pl : Int)) := blk_cell (unhide HXz) 0
                      have x1 : wc.cell? ⟨tb, 1, none⟩ = some (.int .i64 (x.no : Int)) := blk_cell (unhide HXz) 1
                      have x2 : wc.cell? ⟨tb, 2, none⟩ = some (.int .i64 (x.lo : Int)) := blk_cell (unhide HXz) 2
                      have x3 : wc.cell? ⟨tb, 3, none⟩ = some (.int .i64 (x.hi : Int)) := blk_cell (unhide HXz) 3
                      have x4 : wc.cell? ⟨tb, 4, none⟩ = some (.bool x.rest) := blk_cell (unhide HXz) 4
                      have x5 : wc.cell? ⟨tb, 5, none⟩ = some (.int .i64 (x.mn : Int)) := blk_cell (unhide HXz) 5
                      have x6 : wc.cell? ⟨tb, 6, none⟩ = some (.int .i64 (x.mx : Int)) := blk_cell (unhide HXz) 6
                      have x7 : wc.cell? ⟨tb, 7, none⟩ = some (.int .i64 (x.t : Int)) := blk_cell (unhide HXz) 7
                      have x8 : wc.cell? ⟨tb, 8, none⟩ = some (.int .i64 x.out) := blk_cell (unhide HXz) 8
                      have x9 : wc.cell? ⟨tb, 9, none⟩ = some (.int .i64 x.inn) := blk_cell (unhide HXz) 9
                      obtain ⟨told1, ht1⟩ : ∃ told1, told1 = Hx.joinB told ([p8, q8] ++ [58] ++ Lib.itoa (now : Int) ++ [45]) := ⟨_, rfl⟩
                      have lnow := Lib.itoa_length_le (now : Int) (by omega) (by omega)
                      have ht1l : told1.length ≤ told.length + 26 := by
                        have := joinB_len told ([p8, q8] ++ [58] ++ Lib.itoa (now : Int) ++ [45])
                        rw [← ht1] at this
                        simp only [List.length_append, List.length_cons, List.length_nil] at this
                        omega
                      have HFIN3 : Hid (Hx.refEnd L takes x i (now : Int) told1 a' (fun e t o => Hx.refGo L J takes (l.drop (i + 1)) (i + 1) e t (over.set x.pl o)) = FIN.1) := by
                        show _ = _
                        rw [ht1, ← unhide HPQ]
                        exact unhide HFIN2
                      have HJN := hide (fun W => joined_at told ([p8, q8] ++ [58] ++ Lib.itoa (now : Int) ++ [45]) _ W (txt_ent p8 q8 (Lib.itoa (now : Int))) (by omega) (by simp only [List.length_append, List.length_cons, List.length_nil]; omega))
                      rw [← ht1] at HJN
                      have HDN := hide (fun W => dec_any now W (by omega) (now : Int) rfl)
                      have n1 : ¬ 9223372036854775807 < 2 + 1 + (Lib.itoa (now : Int)).length := by omega
                      have n2 : ¬ 9223372036854775807 < 3 + (Lib.itoa (now : Int)).length := by omega
                      have n3 : ¬ 9223372036854775807 < 2 + 1 + (Lib.itoa (now : Int)).length + 1 := by omega
                      have n4 : ¬ 9223372036854775807 < 3 + (Lib.itoa (now : Int)).length + 1 := by omega
                      clear ht1 HFIN2
                      go_upto_region 27 with (first
                        | (go_at_call 21; refine (tsname_at x _ p8 q8 _ (unhide HXOK) (unhide HPQ)).mono ?_; rintro e w8 ⟨rfl, hb8⟩; have HX8 := hide (bBl hb8 (unhide HXz)); have HO8 := hide (bBl hb8 (unhide HOz)); have HB8 := hide (blB hb8 (unhide HBz)); clear hb8)
                        | (go_at_call 36; refine (unhide HDN _).mono ?_; rintro e wd ⟨rfl, hwd⟩; subst hwd)
                        | (go_at_call 35; refine (unhide HJN _).mono ?_; rintro e w7 ⟨rfl, hb7⟩; have HX7 := hide (bBl hb7 (unhide HX8)); have HO7 := hide (bBl hb7 (unhide HO8)); have HB7 := hide (blB hb7 (unhide HB8)); clear hb7))
                      clear n1 n2 n3 n4 HDN HJN x0 x1 x2 x3 x4 x5 x6 x7 x8 x9
                      have x3 : w7.cell? ⟨tb, 3, none⟩ = some (.int .i64 (x.hi : Int)) := blk_cell (unhide HX7) 3
                      obtain ⟨lg, hlg⟩ : ∃ lg, Hx.firstF L ((now : Int) + (x.hi : Int) + 1) a' = lg := ⟨_, rfl⟩
                      have HLGQ := hide hlg
                      have HFL := hide (fun W h1 => lookfirst_any L (.slice (some ⟨gL, 0, none⟩) L.length c5) a' ((now : Int) + (x.hi : Int) + 1) (a' : Int) W h1 (by have := unhide HLL; omega) (by omega) rfl)
                      rw [hlg] at HFL
                      clear hlg
                      go_upto_region 29 with (go_at_call 34; refine (unhide HFL _ (own_below (unhide HV5) (unhide HB7))).mono ?_; rintro e w6' ⟨rfl, hb6⟩; have HX6 := hide (bBl hb6 (unhide HX7)); have HO6 := hide (bBl hb6 (unhide HO7)); have HB6 := hide (blB hb6 (unhide HB7)); clear hb6)
                      clear x3 HFL
                      by_cases hit : i < takes.length
                      · obtain ⟨tk, htkq⟩ : ∃ tk, takes[i]? = some tk := ⟨_, List.getElem?_eq_getElem hit⟩
                        have htk1 := unhide HTL tk (List.mem_of_getElem? htkq)
                        have HTD : Hid (takes.getD i 0 = tk) := by show _ = _; rw [List.getD_eq_getElem?_getD, htkq]; rfl
                        obtain ⟨gT, cT2, eT, _, _⟩ := own_pos (unhide HTK) (by omega)
                        cases eT
                        have HCT : Hid (w5.cell? ⟨gT, i, none⟩ = some (.int .i64 (tk : Int))) := by
                          show _ = _
                          rw [(unhide HTK).cellAt i (by omega)]
                          exact ints_at _ _ _ (nats_at _ _ _ htkq)
                        have cT : w6'.cell? ⟨gT, i, none⟩ = some (.int .i64 (tk : Int)) := cBl (unhide HB6) (unhide HCT)
                        have hitI : (i : Int) < (takes.length : Int) := by omega
                        have hEN : Hx.enF L takes i (now : Int) a' = Hx.firstF L ((now : Int) + (tk : Int)) a' := by rw [Hx.enF, if_pos hit, unhide HTD]
                        have HEN := hide hEN
                        have hcs := Hx.firstF_cases L ((now : Int) + (tk : Int)) _ a' rfl
                        obtain ⟨ei, hei⟩ : ∃ ei, Hx.firstF L ((now : Int) + (tk : Int)) a' = ei := ⟨_, rfl⟩
                        have HFE := hide (fun W h1 => lookfirst_any L (.slice (some ⟨gL, 0, none⟩) L.length c5) a' ((now : Int) + (tk : Int)) (a' : Int) W h1 (by have := unhide HLL; omega) (by omega) rfl)
                        rw [hei] at HFE HEN hcs
                        clear hEN hei htkq hit
                        go_upto_region 31 with (go_at_call 34; refine (unhide HFE _ (own_below (unhide HV5) (unhide HB6))).mono ?_; rintro e wq ⟨rfl, hbq⟩; have HXq := hide (bBl hbq (unhide HX6)); have HOq := hide (bBl hbq (unhide HO6)); have HBq := hide (blB hbq (unhide HB6)); clear hbq)
                        clear cT HFE
                        have x0 : wq.cell? ⟨tb, 0, none⟩ = some (.int .i64 (x.pl : Int)) := blk_cell (unhide HXq) 0
                        have x1 : wq.cell? ⟨tb, 1, none⟩ = some (.int .i64 (x.no : Int)) := blk_cell (unhide HXq) 1
                        have x2 : wq.cell? ⟨tb, 2, none⟩ = some (.int .i64 (x.lo : Int)) := blk_cell (unhide HXq) 2
                        have x3 : wq.cell? ⟨tb, 3, none⟩ = some (.int .i64 (x.hi : Int)) := blk_cell (unhide HXq) 3
                        have x4 : wq.cell? ⟨tb, 4, none⟩ = some (.bool x.rest) := blk_cell (unhide HXq) 4
                        have x5 : wq.cell? ⟨tb, 5, none⟩ = some (.int .i64 (x.mn : Int)) := blk_cell (unhide HXq) 5
                        have x6 : wq.cell? ⟨tb, 6, none⟩ = some (.int .i64 (x.mx : Int)) := blk_cell (unhide HXq) 6
                        have x7 : wq.cell? ⟨tb, 7, none⟩ = some (.int .i64 (x.t : Int)) := blk_cell (unhide HXq) 7
                        have x8 : wq.cell? ⟨tb, 8, none⟩ = some (.int .i64 x.out) := blk_cell (unhide HXq) 8
                        have x9 : wq.cell? ⟨tb, 9, none⟩ = some (.int .i64 x.inn) := blk_cell (unhide HXq) 9
                        rcases hcs with rfl | ⟨en, rfl, hen1, hen2⟩
                        · by_cases hlg0 : 0 ≤ lg
                          · have HLGE : Hid (0 ≤ Hx.firstF L ((now : Int) + (x.hi : Int) + 1) a') := by show _ ≤ _; rw [unhide HLGQ]; exact hlg0
                            have HEND : Hid (FIN = (Hx.outB 3 ++ [32] ++ [p8, q8] ++ [59] ++ told1, 0)) := Prod.ext (by
                              show FIN.1 = _
                              rw [← unhide HFIN3, Hx.end_long (Or.inl (by rw [unhide HEN]; decide)) (unhide HLGE), unhide HPQ]) (unhide HF2)
                            go_wp2_with (go_at_call 21; refine (tsname_at x _ p8 q8 _ (unhide HXOK) (unhide HPQ)).mono ?_; rintro e w9 ⟨rfl, hb9⟩; have HB9 := hide (blB hb9 (unhide HBq)); clear hb9)
                            all_goals first | omega | skip
                            go_returns
                            rw [unhide HEND]
                            exact ⟨tup_str (txt_long _ _ _), (unhide HB0).trans ((unhide HB9).mono (unhide HB0).size)⟩
                          · have HEND : Hid (FIN = (Hx.outB 0 ++ [59] ++ told1, 0)) := Prod.ext (by
                              show FIN.1 = _
                              rw [← unhide HFIN3, Hx.end_open (by rw [unhide HEN]; decide) (by rw [unhide HLGQ]; exact hlg0)]) (unhide HF2)
                            go_wp2_with fail
                            all_goals first | omega | skip
                            go_returns
                            rw [unhide HEND]
                            exact ⟨tup_str (txt_open _), (unhide HB0).trans ((unhide HBq).mono (unhide HB0).size)⟩
                        · have hen0 : ¬ (en : Int) < 0 := by omega
                          have HENE : Hid (Hx.enF L takes i (now : Int) a' = (en : Int)) := unhide HEN
                          by_cases hlg0 : 0 ≤ lg
                          · by_cases hle : lg < (en : Int)
                            · have HLGE : Hid (0 ≤ Hx.firstF L ((now : Int) + (x.hi : Int) + 1) a') := by show _ ≤ _; rw [unhide HLGQ]; exact hlg0
                              have HEND : Hid (FIN = (Hx.outB 3 ++ [32] ++ [p8, q8] ++ [59] ++ told1, 0)) := Prod.ext (by
                                show FIN.1 = _
                                rw [← unhide HFIN3, Hx.end_long (Or.inr ⟨unhide HLGE, by rw [unhide HLGQ, unhide HENE]; exact hle⟩) (unhide HLGE), unhide HPQ]) (unhide HF2)
                              go_wp2_with (go_at_call 21; refine (tsname_at x _ p8 q8 _ (unhide HXOK) (unhide HPQ)).mono ?_; rintro e w9 ⟨rfl, hb9⟩; have HB9 := hide (blB hb9 (unhide HBq)); clear hb9)
                              all_goals first | omega | skip
                              go_returns
                              rw [unhide HEND]
                              exact ⟨tup_str (txt_long _ _ _), (unhide HB0).trans ((unhide HB9).mono (unhide HB0).size)⟩
                            · skip
                              have hfin4 := unhide HFIN3
                              rw [Hx.end_over (en := en) (tk := tk) (unhide HENE) (by rw [unhide HLGQ]; omega) (unhide HTD)] at hfin4
                              have cT : wq.cell? ⟨gT, i, none⟩ = some (.int .i64 (tk : Int)) := cBl (unhide HBq) (unhide HCT)
                              have x2 : wq.cell? ⟨tb, 2, none⟩ = some (.int .i64 (x.lo : Int)) := blk_cell (unhide HXq) 2
                              have x3 : wq.cell? ⟨tb, 3, none⟩ = some (.int .i64 (x.hi : Int)) := blk_cell (unhide HXq) 3
                              obtain ⟨nk, hnk⟩ : ∃ nk, nk = now + tk := ⟨_, rfl⟩
                              have HDEC := hide (fun W => dec_any nk W (by omega) ((now : Int) + (tk : Int)) (by omega))
                              have e9 : (now : Int) + (tk : Int) = (nk : Int) := by omega
                              have HE9 := hide e9
                              have lnk0 := Lib.itoa_length_le (nk : Int) (by omega) (by omega)
                              obtain ⟨told2, ht2⟩ : ∃ told2, told2 = told1 ++ Lib.itoa (nk : Int) := ⟨_, rfl⟩
                              have ht2l : told2.length ≤ told1.length + 21 := by
                                rw [ht2, List.length_append]
                                omega
                              have hstr : Hid ((⟨told1.toArray⟩ : ByteArray) ++ ⟨(Lib.itoa (nk : Int)).toArray⟩ = ⟨told2.toArray⟩) := by
                                show _ = _
                                rw [ht2]; exact bytes_app _ _
                              have lnk : ¬ 9223372036854775807 < told1.length + (Lib.itoa (nk : Int)).length := by omega
                              rw [e9, ← ht2] at hfin4
                              have HFIN4 := hide hfin4
                              have hnkb : nk ≤ 1001000 := by omega
                              clear hfin4 ht2 e9 hnk
                              go_upto_region 36 with (go_at_call 36; refine (unhide HDEC _).mono ?_; rintro e wd ⟨rfl, hwd⟩; subst hwd)
                              rw [unhide hstr]
                              clear lnk
                              go_quiet (fail)
                              by_cases hlo : tk < x.lo
                              · have HEND : Hid (FIN = (Hx.outB 2 ++ [32] ++ [p8, q8] ++ [59] ++ told2, 0)) := Prod.ext (by
                                  show FIN.1 = _
                                  rw [← unhide HFIN4, if_pos hlo, unhide HPQ]) (unhide HF2)
                                have hloI : (tk : Int) < (x.lo : Int) := by omega
                                clear hlo
                                go_wp2_with (go_at_call 21; refine (tsname_at x _ p8 q8 _ (unhide HXOK) (unhide HPQ)).mono ?_; rintro e w9 ⟨rfl, hb9⟩; have HB9 := hide (blB hb9 (belN _ (unhide HBq))); clear hb9)
                                all_goals first | omega | skip
                                go_returns
                                rw [unhide HEND]
                                exact ⟨tup_str (txt_short _ _ _), (unhide HB0).trans ((unhide HB9).mono (unhide HB0).size)⟩
                              · have hloI : ¬ (tk : Int) < (x.lo : Int) := by omega
                                go_upto_region 38 with fail
                                go_quiet (fail)
                                by_cases hhi : x.hi < tk
                                · have HEND : Hid (FIN = (Hx.outB 3 ++ [32] ++ [p8, q8] ++ [59] ++ told2, 0)) := Prod.ext (by
                                    show FIN.1 = _
                                    rw [← unhide HFIN4, if_neg hlo, if_pos hhi, unhide HPQ]) (unhide HF2)
                                  have hhiI : (x.hi : Int) < (tk : Int) := by omega
                                  clear hlo hhi
                                  go_wp2_with (go_at_call 21; refine (tsname_at x _ p8 q8 _ (unhide HXOK) (unhide HPQ)).mono ?_; rintro e w9 ⟨rfl, hb9⟩; have HB9 := hide (blB hb9 (belN _ (unhide HBq))); clear hb9)
                                  all_goals first | omega | skip
                                  go_returns
                                  rw [unhide HEND]
                                  exact ⟨tup_str (txt_long _ _ _), (unhide HB0).trans ((unhide HB9).mono (unhide HB0).size)⟩
                                · have hhiI : ¬ (x.hi : Int) < (tk : Int) := by omega
                                  have HFIN5 : Hid (Hx.refGo L J takes (l.drop (i + 1)) (i + 1) en told2 (over.set x.pl (nk : Int)) = FIN.1) := Hx.go_on (unhide HFIN4) hlo hhi
                                  clear hlo hhi
                                  have coq := arr_cell (unhide HOq) (unhide HOVQ)
                                  have foq := blk_free (unhide HOq) x.pl
                                  have hwk : IntKind.i64.wrap ((now : Int) + (tk : Int)) = (now : Int) + (tk : Int) := IntWalk.i64_in _ ⟨by omega, by omega⟩
                                  have htw : tb ≠ w5.heap.size := by omega
                                  have hgw : gT ≠ w5.heap.size := Nat.ne_of_lt (World.block_lt_of_cell? w5 ⟨gT, i, none⟩ (unhide HCT))
                                  go_upto_region 40 with fail
                                  go_region_held3 (fun w' => w'.cell? ⟨tb, 0, none⟩ = some (.int .i64 (x.pl : Int)) ∧ w'.cell? ⟨gT, i, none⟩ = some (.int .i64 (tk : Int))) (refine ⟨?_, ?_⟩ <;> (repeat with_reducible (first | assumption | apply cD | apply cN' | refine cS' htw ?_ | refine cS' hgw ?_)))
                                    (first | fail)
                                  all_goals
                                    go_wp2_with fail
                                    go_roundg (l.length - (i + 1))
                                    case measure => omega
                                    case rel =>
                                      refine ⟨i + 1, en, told2, over.set x.pl (nk : Int), by omega, rfl, by go_num, rfl, hen2, rfl, by omega, by simp [hov4], ?_, unhide HFIN5, ?_, ?_⟩
                                      · intro r hr
                                        rcases List.mem_or_eq_of_mem_set hr with hr | rfl
                                        · exact hovb r hr
                                        · omega
                                      · rw [unhide HE9]
                                        have h8 := blk_set (bN' 0 (unhide HOq)) x.pl (.int .i64 (nk : Int))
                                        rw [ints_set] at h8
                                        exact h8
                                      · first | exact (belN _ (unhide HBq)).setCell (p := ⟨w5.heap.size, x.pl, none⟩) (Nat.le_refl _) _ | exact (belD (belN _ (unhide HBq))).setCell (p := ⟨w5.heap.size, x.pl, none⟩) (Nat.le_refl _) _ | exact (belD (belN _ (belN _ (unhide HBq)))).setCell (p := ⟨w5.heap.size, x.pl, none⟩) (Nat.le_refl _) _
                          · skip
                            have hfin4 := unhide HFIN3
                            rw [Hx.end_over (en := en) (tk := tk) (unhide HENE) (by rw [unhide HLGQ]; omega) (unhide HTD)] at hfin4
                            have cT : wq.cell? ⟨gT, i, none⟩ = some (.int .i64 (tk : Int)) := cBl (unhide HBq) (unhide HCT)
                            have x2 : wq.cell? ⟨tb, 2, none⟩ = some (.int .i64 (x.lo : Int)) := blk_cell (unhide HXq) 2
                            have x3 : wq.cell? ⟨tb, 3, none⟩ = some (.int .i64 (x.hi : Int)) := blk_cell (unhide HXq) 3
                            obtain ⟨nk, hnk⟩ : ∃ nk, nk = now + tk := ⟨_, rfl⟩
                            have HDEC := hide (fun W => dec_any nk W (by omega) ((now : Int) + (tk : Int)) (by omega))
                            have e9 : (now : Int) + (tk : Int) = (nk : Int) := by omega
                            have HE9 := hide e9
                            have lnk0 := Lib.itoa_length_le (nk : Int) (by omega) (by omega)
                            obtain ⟨told2, ht2⟩ : ∃ told2, told2 = told1 ++ Lib.itoa (nk : Int) := ⟨_, rfl⟩
                            have ht2l : told2.length ≤ told1.length + 21 := by
                              rw [ht2, List.length_append]
                              omega
                            have hstr : Hid ((⟨told1.toArray⟩ : ByteArray) ++ ⟨(Lib.itoa (nk : Int)).toArray⟩ = ⟨told2.toArray⟩) := by
                              show _ = _
                              rw [ht2]; exact bytes_app _ _
                            have lnk : ¬ 9223372036854775807 < told1.length + (Lib.itoa (nk : Int)).length := by omega
                            rw [e9, ← ht2] at hfin4
                            have HFIN4 := hide hfin4
                            have hnkb : nk ≤ 1001000 := by omega
                            clear hfin4 ht2 e9 hnk
                            go_upto_region 36 with (go_at_call 36; refine (unhide HDEC _).mono ?_; rintro e wd ⟨rfl, hwd⟩; subst hwd)
                            rw [unhide hstr]
                            clear lnk
                            go_quiet (fail)
                            by_cases hlo : tk < x.lo
                            · have HEND : Hid (FIN = (Hx.outB 2 ++ [32] ++ [p8, q8] ++ [59] ++ told2, 0)) := Prod.ext (by
                                show FIN.1 = _
                                rw [← unhide HFIN4, if_pos hlo, unhide HPQ]) (unhide HF2)
                              have hloI : (tk : Int) < (x.lo : Int) := by omega
                              clear hlo
                              go_wp2_with (go_at_call 21; refine (tsname_at x _ p8 q8 _ (unhide HXOK) (unhide HPQ)).mono ?_; rintro e w9 ⟨rfl, hb9⟩; have HB9 := hide (blB hb9 (belN _ (unhide HBq))); clear hb9)
                              all_goals first | omega | skip
                              go_returns
                              rw [unhide HEND]
                              exact ⟨tup_str (txt_short _ _ _), (unhide HB0).trans ((unhide HB9).mono (unhide HB0).size)⟩
                            · have hloI : ¬ (tk : Int) < (x.lo : Int) := by omega
                              go_upto_region 38 with fail
                              go_quiet (fail)
                              by_cases hhi : x.hi < tk
                              · have HEND : Hid (FIN = (Hx.outB 3 ++ [32] ++ [p8, q8] ++ [59] ++ told2, 0)) := Prod.ext (by
                                  show FIN.1 = _
                                  rw [← unhide HFIN4, if_neg hlo, if_pos hhi, unhide HPQ]) (unhide HF2)
                                have hhiI : (x.hi : Int) < (tk : Int) := by omega
                                clear hlo hhi
                                go_wp2_with (go_at_call 21; refine (tsname_at x _ p8 q8 _ (unhide HXOK) (unhide HPQ)).mono ?_; rintro e w9 ⟨rfl, hb9⟩; have HB9 := hide (blB hb9 (belN _ (unhide HBq))); clear hb9)
                                all_goals first | omega | skip
                                go_returns
                                rw [unhide HEND]
                                exact ⟨tup_str (txt_long _ _ _), (unhide HB0).trans ((unhide HB9).mono (unhide HB0).size)⟩
                              · have hhiI : ¬ (x.hi : Int) < (tk : Int) := by omega
                                have HFIN5 : Hid (Hx.refGo L J takes (l.drop (i + 1)) (i + 1) en told2 (over.set x.pl (nk : Int)) = FIN.1) := Hx.go_on (unhide HFIN4) hlo hhi
                                clear hlo hhi
                                have coq := arr_cell (unhide HOq) (unhide HOVQ)
                                have foq := blk_free (unhide HOq) x.pl
                                have hwk : IntKind.i64.wrap ((now : Int) + (tk : Int)) = (now : Int) + (tk : Int) := IntWalk.i64_in _ ⟨by omega, by omega⟩
                                have htw : tb ≠ w5.heap.size := by omega
                                have hgw : gT ≠ w5.heap.size := Nat.ne_of_lt (World.block_lt_of_cell? w5 ⟨gT, i, none⟩ (unhide HCT))
                                go_upto_region 40 with fail
                                go_region_held3 (fun w' => w'.cell? ⟨tb, 0, none⟩ = some (.int .i64 (x.pl : Int)) ∧ w'.cell? ⟨gT, i, none⟩ = some (.int .i64 (tk : Int))) (refine ⟨?_, ?_⟩ <;> (repeat with_reducible (first | assumption | apply cD | apply cN' | refine cS' htw ?_ | refine cS' hgw ?_)))
                                  (first | fail)
                                all_goals
                                  go_wp2_with fail
                                  go_roundg (l.length - (i + 1))
                                  case measure => omega
                                  case rel =>
                                    refine ⟨i + 1, en, told2, over.set x.pl (nk : Int), by omega, rfl, by go_num, rfl, hen2, rfl, by omega, by simp [hov4], ?_, unhide HFIN5, ?_, ?_⟩
                                    · intro r hr
                                      rcases List.mem_or_eq_of_mem_set hr with hr | rfl
                                      · exact hovb r hr
                                      · omega
                                    · rw [unhide HE9]
                                      have h8 := blk_set (bN' 0 (unhide HOq)) x.pl (.int .i64 (nk : Int))
                                      rw [ints_set] at h8
                                      exact h8
                                    · first | exact (belN _ (unhide HBq)).setCell (p := ⟨w5.heap.size, x.pl, none⟩) (Nat.le_refl _) _ | exact (belD (belN _ (unhide HBq))).setCell (p := ⟨w5.heap.size, x.pl, none⟩) (Nat.le_refl _) _ | exact (belD (belN _ (belN _ (unhide HBq)))).setCell (p := ⟨w5.heap.size, x.pl, none⟩) (Nat.le_refl _) _
                      · have hEN : Hx.enF L takes i (now : Int) a' = -1 := by rw [Hx.enF, if_neg hit]
                        have HEN := hide hEN
                        have hitI : ¬ (i : Int) < (takes.length : Int) := by omega
                        clear hEN hit
                        have x0 : w6'.cell? ⟨tb, 0, none⟩ = some (.int .i64 (x.pl : Int)) := blk_cell (unhide HX6) 0
                        have x1 : w6'.cell? ⟨tb, 1, none⟩ = some (.int .i64 (x.no : Int)) := blk_cell (unhide HX6) 1
                        have x2 : w6'.cell? ⟨tb, 2, none⟩ = some (.int .i64 (x.lo : Int)) := blk_cell (unhide HX6) 2
                        have x3 : w6'.cell? ⟨tb, 3, none⟩ = some (.int .i64 (x.hi : Int)) := blk_cell (unhide HX6) 3
                        have x4 : w6'.cell? ⟨tb, 4, none⟩ = some (.bool x.rest) := blk_cell (unhide HX6) 4
                        have x5 : w6'.cell? ⟨tb, 5, none⟩ = some (.int .i64 (x.mn : Int)) := blk_cell (unhide HX6) 5
                        have x6 : w6'.cell? ⟨tb, 6, none⟩ = some (.int .i64 (x.mx : Int)) := blk_cell (unhide HX6) 6
                        have x7 : w6'.cell? ⟨tb, 7, none⟩ = some (.int .i64 (x.t : Int)) := blk_cell (unhide HX6) 7
                        have x8 : w6'.cell? ⟨tb, 8, none⟩ = some (.int .i64 x.out) := blk_cell (unhide HX6) 8
                        have x9 : w6'.cell? ⟨tb, 9, none⟩ = some (.int .i64 x.inn) := blk_cell (unhide HX6) 9
                        by_cases hlg0 : 0 ≤ lg
                        · have HLGE : Hid (0 ≤ Hx.firstF L ((now : Int) + (x.hi : Int) + 1) a') := by show _ ≤ _; rw [unhide HLGQ]; exact hlg0
                          have HEND : Hid (FIN = (Hx.outB 3 ++ [32] ++ [p8, q8] ++ [59] ++ told1, 0)) := Prod.ext (by
                            show FIN.1 = _
                            rw [← unhide HFIN3, Hx.end_long (Or.inl (by rw [unhide HEN]; decide)) (unhide HLGE), unhide HPQ]) (unhide HF2)
                          go_wp2_with (go_at_call 21; refine (tsname_at x _ p8 q8 _ (unhide HXOK) (unhide HPQ)).mono ?_; rintro e w9 ⟨rfl, hb9⟩; have HB9 := hide (blB hb9 (unhide HB6)); clear hb9)
                          all_goals first | omega | skip
                          go_returns
                          rw [unhide HEND]
                          exact ⟨tup_str (txt_long _ _ _), (unhide HB0).trans ((unhide HB9).mono (unhide HB0).size)⟩
                        · have HEND : Hid (FIN = (Hx.outB 0 ++ [59] ++ told1, 0)) := Prod.ext (by
                            show FIN.1 = _
                            rw [← unhide HFIN3, Hx.end_open (by rw [unhide HEN]; decide) (by rw [unhide HLGQ]; exact hlg0)]) (unhide HF2)
                          go_wp2_with fail
                          all_goals first | omega | skip
                          go_returns
                          rw [unhide HEND]
                          exact ⟨tup_str (txt_open _), (unhide HB0).trans ((unhide HB6).mono (unhide HB0).size)⟩
                  · have HEND : Hid (FIN = (Hx.outB 5 ++ [32] ++ [p8, q8] ++ [59] ++ told, 0)) := by
                      show _ = _
                      rw [← unhide HF2, ← unhide HPQ, ← Hx.go_window (takes := takes) (xs := l.drop (i + 1)) (i := i) (over := over) (unhide HFI) (unhide HLN) hlate (by rw [hovd]; exact hwd), unhide HFIN]
                    have hrest : x.rest = true := by
                      cases hre : x.rest
                      · rw [Hx.windowB, hre] at hwd; cases hwd
                      · rfl
                    rw [hrest] at x4
                    rw [Hx.windowB, hrest, Bool.true_and] at hwd
                    have x4' : wy.cell? ⟨tb, 4, none⟩ = some (.bool true) := x4
                    clear hlate
                    have HBZ := HBY
                    by_cases hmn : (now : Int) - ov < (x.mn : Int)
                    · clear hwd
                      go_quiet (fail)
                      go_wp2_with (go_at_call 21; refine (tsname_at x _ p8 q8 _ (unhide HXOK) (unhide HPQ)).mono ?_; rintro e w9 ⟨rfl, hb9⟩; have HB9 := hide (blB hb9 (belN _ (unhide HBZ))); clear hb9)
                      all_goals first | omega | skip
                      go_returns
                      rw [unhide HEND]
                      exact ⟨tup_str (txt_window _ _ _), (unhide HB0).trans ((unhide HB9).mono (unhide HB0).size)⟩
                    · have hmx : (x.mx : Int) < (now : Int) - ov := by simpa [hmn] using hwd
                      clear hwd
                      go_quiet (fail)
                      go_wp2_with (go_at_call 21; refine (tsname_at x _ p8 q8 _ (unhide HXOK) (unhide HPQ)).mono ?_; rintro e w9 ⟨rfl, hb9⟩; have HB9 := hide (blB hb9 (belN _ (unhide HBZ))); clear hb9)
                      all_goals first | omega | skip
                      go_returns
                      rw [unhide HEND]
                      exact ⟨tup_str (txt_window _ _ _), (unhide HB0).trans ((unhide HB9).mono (unhide HB0).size)⟩
            · have hie : i = l.length := by omega
              subst hie
              rw [List.drop_length] at hfin
              have HEND : Hid (FIN = (Hx.outB 1 ++ [59] ++ told, 0)) := by
                show _ = _
                rw [← unhide HF2, show Hx.outB 1 ++ [59] ++ told = FIN.1 from hfin]
              have HBE := hide hbe
              have hltI : ¬ (l.length : Int) < (l.length : Int) := by omega
              clear hfin hob hbe
              go_wp2_with fail
              all_goals first | omega | skip
              go_returns
              rw [unhide HEND]
              exact ⟨tup_str (txt_done _), (unhide HB0).trans ((unhide HBE).mono (unhide HB0).size)⟩
      · have HF : Hid (FIN = ([], (Hx.lookF s).1)) := by show _ = _; rw [unhide HF2, if_pos hl0]
        have hl0I : ((Hx.lookF s).1 != 0) = true := by simpa using hl0
        clear hl0
        go_wp2_with fail
        go_returns
        exact ⟨by rw [unhide HF]; rfl, unhide HB1⟩

end Go.Proofs.YtppcnlkhdgmaiabGreatDoor
