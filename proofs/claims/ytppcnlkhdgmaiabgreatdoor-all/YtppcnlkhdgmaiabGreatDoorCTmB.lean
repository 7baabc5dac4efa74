/- What the document's Times does: the table of all pairs. -/
import Derived.Test.YtppcnlkhdgmaiabGreatDoorCTmA
import Derived.Test.YtppcnlkhdgmaiabGreatDoorCRrC
import Derived.Test.YtppcnlkhdgmaiabGreatDoorCRmB
import Derived.Deep.RegionHeld3
namespace Go.Proofs.YtppcnlkhdgmaiabGreatDoor
open Go.RowKit

def Hx.no : Int := -1099511627776
/-- The table as it is made. -/
def Hx.M0 : Nat → Nat → Int := fun a b => if b = a then 0 else Hx.no
/-- The beginning is ahead of the first m. -/
def Hx.M1 (n m : Nat) : Nat → Nat → Int := fun a b => if a = n ∧ b < m then 0 else Hx.M0 a b
theorem Hx.M1_zero (n : Nat) : Hx.M1 n 0 = Hx.M0 := by
  funext a b
  unfold M1
  rw [if_neg (by omega)]
theorem Hx.M1_step (n m : Nat) : Hx.updM (Hx.M1 n m) n m 0 = Hx.M1 n (m + 1) := by
  funext a b
  unfold updM M1
  by_cases e1 : a = n
  · by_cases e2 : b = m
    · rw [if_pos ⟨e1, e2⟩, if_pos ⟨e1, by omega⟩]
    · rw [if_neg (fun h => e2 h.2)]
      by_cases e3 : b < m
      · rw [if_pos ⟨e1, e3⟩, if_pos ⟨e1, by omega⟩]
      · rw [if_neg (fun h => e3 h.2), if_neg (fun h => by omega)]
  · rw [if_neg (fun h => e1 h.1), if_neg (fun h => e1 h.1), if_neg (fun h => e1 h.1)]

def Hx.hiAt (L : List Hx.Lst) (i : Nat) : Nat := match L[i]? with | some y => y.x.hi | none => 0
/-- The order's bounds, the first so many. -/
def Hx.chM (J : Nat) (L : List Hx.Lst) (o : List Nat) (M : Nat → Nat → Int) : Nat → Nat → Nat → Int
  | 0 => M
  | q + 1 => Hx.updM (Hx.chM J L o M q) (o.getD q 0) (o.getD (q + 1) 0) ((J : Int) + Hx.hiAt L (o.getD q 0))
/-- A bound that is not below what stands there. -/
def Hx.maxM (M : Nat → Nat → Int) (i j : Nat) (v : Int) : Nat → Nat → Int := if M i j < v then Hx.updM M i j v else M
/-- The bounds of a rest that ends with step i. -/
def Hx.restM (J : Nat) (L : List Hx.Lst) (M : Nat → Nat → Int) (i : Nat) : Nat → Nat → Int :=
  match L[i]?, L[i - 1]? with
  | some x, some a => if x.x.rest then Hx.maxM (Hx.maxM M (i - 1) i ((J : Int) + a.x.hi + x.x.mn)) i (i - 1) ((J : Int) - a.x.lo - x.x.mx) else M
  | _, _ => M
/-- The bounds of the rests that end with steps 1 .. q. -/
def Hx.rsM (J : Nat) (L : List Hx.Lst) (M : Nat → Nat → Int) : Nat → Nat → Nat → Int
  | 0 => M
  | q + 1 => Hx.restM J L (Hx.rsM J L M q) (q + 1)
/-- The table of all pairs. -/
def Hx.tabM (J : Nat) (L : List Hx.Lst) (o : List Nat) : Nat → Nat → Int := Hx.rsM J L (Hx.chM J L o (Hx.M1 L.length L.length) (L.length - 1)) (L.length - 1)
/-- One more node may be passed. -/
def Hx.relI (M : Nat → Nat → Int) (k a b : Nat) : Int := if Hx.no < M a k ∧ Hx.no < M k b ∧ M a b < M a k + M k b then M a k + M k b else M a b
def Hx.fwI (M : Nat → Nat → Int) : Nat → Nat → Nat → Int
  | 0 => M
  | k + 1 => Hx.relI (Hx.fwI M k) k
theorem Hx.relI_row {M : Nat → Nat → Int} {k : Nat} (h : M k k = 0) (b : Nat) : Hx.relI M k k b = M k b := by
  unfold relI
  rw [h]
  split
  · omega
  · rfl
theorem Hx.relI_col {M : Nat → Nat → Int} {k : Nat} (h : M k k = 0) (a : Nat) : Hx.relI M k a k = M a k := by
  unfold relI
  rw [h]
  split
  · omega
  · rfl
theorem Hx.relI_ge (M : Nat → Nat → Int) (k a b : Nat) : M a b ≤ Hx.relI M k a b := by
  unfold relI
  split <;> omega
theorem Hx.relI_bd {M : Nat → Nat → Int} {B : Int} (hB : 0 ≤ B) (h : ∀ a b, Hx.no ≤ M a b ∧ M a b ≤ B) (k a b : Nat) : Hx.no ≤ Hx.relI M k a b ∧ Hx.relI M k a b ≤ 2 * B := by
  have h1 := h a b
  have h2 := h a k
  have h3 := h k b
  unfold relI
  split <;> omega
theorem Hx.fwI_bd {M : Nat → Nat → Int} (h : ∀ a b, Hx.no ≤ M a b ∧ M a b ≤ 4000) : ∀ k a b, Hx.no ≤ Hx.fwI M k a b ∧ Hx.fwI M k a b ≤ 4000 * 2 ^ k
  | 0, a, b => by simpa [fwI] using h a b
  | k + 1, a, b => by
    have := relI_bd (B := 4000 * 2 ^ k) (by have : (0 : Int) < 2 ^ k := Int.pow_pos (by omega); omega) (fwI_bd h k) k a b
    rw [fwI, Int.pow_succ]
    omega
theorem Hx.fwI_ge (M : Nat → Nat → Int) : ∀ k a b, M a b ≤ Hx.fwI M k a b
  | 0, _, _ => Int.le_refl _
  | k + 1, a, b => Int.le_trans (fwI_ge M k a b) (relI_ge _ _ _ _)
/-- A round half done. -/
def Hx.mixI (M : Nat → Nat → Int) (k i j : Nat) : Nat → Nat → Int := fun a b => if a < i ∨ (a = i ∧ b < j) then Hx.relI M k a b else M a b
theorem Hx.mixI_start (M : Nat → Nat → Int) (k : Nat) : Hx.mixI M k 0 0 = M := by
  funext a b
  unfold mixI
  rw [if_neg (by omega)]
theorem Hx.mixI_col {M : Nat → Nat → Int} {k : Nat} (h : M k k = 0) (i j a : Nat) : Hx.mixI M k i j a k = M a k := by
  unfold mixI
  rw [relI_col h]
  split <;> rfl
theorem Hx.mixI_row {M : Nat → Nat → Int} {k : Nat} (h : M k k = 0) (i j b : Nat) : Hx.mixI M k i j k b = M k b := by
  unfold mixI
  rw [relI_row h]
  split <;> rfl
theorem Hx.mixI_here (M : Nat → Nat → Int) (k i j : Nat) : Hx.mixI M k i j i j = M i j := by
  unfold mixI
  rw [if_neg (by omega)]
theorem Hx.mixI_step (M : Nat → Nat → Int) (k i j : Nat) : Hx.updM (Hx.mixI M k i j) i j (Hx.relI M k i j) = Hx.mixI M k i (j + 1) := by
  funext a b
  unfold updM mixI
  by_cases e : a = i ∧ b = j
  · obtain ⟨rfl, rfl⟩ := e
    rw [if_pos ⟨rfl, rfl⟩, if_pos (Or.inr ⟨rfl, by omega⟩)]
  · rw [if_neg e]
    by_cases c : a < i ∨ (a = i ∧ b < j)
    · rw [if_pos c, if_pos (by omega)]
    · rw [if_neg c, if_neg (by omega)]
theorem Hx.mixI_same {M : Nat → Nat → Int} {k i j : Nat} (h : Hx.relI M k i j = M i j) : Hx.mixI M k i j = Hx.mixI M k i (j + 1) := by
  funext a b
  unfold mixI
  by_cases e : a = i ∧ b = j
  · obtain ⟨rfl, rfl⟩ := e
    rw [if_neg (by omega), if_pos (Or.inr ⟨rfl, by omega⟩), h]
  · by_cases c : a < i ∨ (a = i ∧ b < j)
    · rw [if_pos c, if_pos (by omega)]
    · rw [if_neg c, if_neg (by omega)]

theorem ord_at {w : World} {gg n c : Nat} {o : List Nat} (h : w.ownsRow 0 3 1 (.slice (some ⟨gg, 0, none⟩) n c) n (ints (nats o))) (hn : n = o.length) {i : Nat} (hi : i < n) : w.cell? ⟨gg, i, none⟩ = some (.int .i64 ((o.getD i 0 : Nat) : Int)) := by
  rw [h.cellAt i (by omega)]
  subst hn
  simp [ints, nats, hi]

theorem cSo {w : World} {b i j : Nat} {v x : Value} (hne : i ≠ j) (h : w.cell? ⟨b, i, none⟩ = some v) : (w.setCell ⟨b, j, none⟩ x).cell? ⟨b, i, none⟩ = some v := by
  have hne' : (⟨b, j, none⟩ : Addr) ≠ ⟨b, i, none⟩ := by
    intro e
    exact hne (by simpa using (congrArg Addr.off e).symm)
  have e : (w.setCell ⟨b, j, none⟩ x).cell? ⟨b, i, none⟩ = w.cell? ⟨b, i, none⟩ := by
    apply World.cell?_setCell_other
    exact hne'
  rw [e]
  exact h

theorem belA' {base : Nat} {w W : World} (o : Obj) (h : Below base w W) (hb : base ≤ W.heap.size) : Below base w (W.alloc o) := h.alloc hb o

/-- What Times answers. -/
def TimesRes (J : Nat) (L : List Hx.Lst) (o : List Nat) (w : World) (e : Ending) (w' : World) : Prop :=
  Below w.heap.size w w' ∧
    (((∃ k i, k < L.length + 1 ∧ i < L.length + 1 ∧ 0 < Hx.fwI (Hx.tabM J L o) (k + 1) i i) ∧ e = .returned (.tuple #[.slice none 0 0, .bool false])) ∨
     ((∀ k i, k < L.length + 1 → i < L.length + 1 → Hx.fwI (Hx.tabM J L o) (k + 1) i i ≤ 0) ∧ ∃ gt, e = .returned (.tuple #[.slice (some ⟨gt, 0, none⟩) L.length (L.length + 1), .bool true]) ∧ gt < w'.heap.size ∧
       ∀ j, j < L.length → w'.cell? ⟨gt, j, none⟩ = some (.int .i64 (Hx.fwI (Hx.tabM J L o) (L.length + 1) L.length j))))

set_option maxRecDepth 100000 in
set_option maxHeartbeats 8000000 in
theorem times_any (J K D : Nat) (pl : Int) (sv ov : Value) (L : List Hx.Lst) (o : List Nat) (w : World) (hS : Stps w sv L) (ho : w.ownsRow 0 3 1 ov o.length (ints (nats o))) (hlen : o.length = L.length) (hin : ∀ i ∈ o, i < L.length) (hL9 : L.length ≤ 9) (hJ : J < 10)
    (hsm : ∀ y ∈ L, y.x.lo < 1000 ∧ y.x.hi < 1000 ∧ y.x.mn < 1000 ∧ y.x.mx < 1000) (hdg : ∀ c, Hx.tabM J L o c c = 0) (hbd : ∀ a b, Hx.no ≤ Hx.tabM J L o a b ∧ Hx.tabM J L o a b ≤ 4000) :
    Calls Tryz.prog 23 #[.agg #[.int .i64 (J : Int), .int .i64 (K : Int), .int .i64 (D : Int), sv, .int .i64 pl], ov] w (TimesRes J L o w) := by
  have HDG := hide hdg
  have HBD := hide (Hx.fwI_bd hbd)
  clear hdg hbd
  obtain ⟨gs, cap, rfl, _, hg⟩ := own_pos hS.ow hS.pos
  have hpos := hS.pos
  obtain ⟨go, capo, rfl, _, hgo⟩ := own_pos ho (by omega)
  obtain ⟨n, hn⟩ : ∃ n, n = L.length := ⟨_, rfl⟩
  obtain ⟨i3, hi3, hz30, hz31, hz32⟩ := info_parts Tryz.info3
  obtain ⟨i5, hi5, hz50, hz51, hz52⟩ := info_parts Tryz.info64
  have HI3 := hide hi3
  have HZ30 := hide hz30
  have HZ31 := hide hz31
  have HZ32 := hide hz32
  have HI5 := hide hi5
  have HZ50 := hide hz50
  have HZ51 := hide hz51
  have HZ52 := hide hz52
  have HB0 := hide (belA (.cells #[.int .i64 (J : Int), .int .i64 (K : Int), .int .i64 (D : Int), .slice (some ⟨gs, 0, none⟩) L.length cap, .int .i64 pl] 49) (Below.refl w.heap.size w))
  have HX0 := hide (blk_new w #[.int .i64 (J : Int), .int .i64 (K : Int), .int .i64 (D : Int), .slice (some ⟨gs, 0, none⟩) L.length cap, .int .i64 pl] 49)
  have HS := hide (own_below hS.ow (unhide HB0))
  have HO := hide (own_below ho (unhide HB0))
  have HIN := hide hin
  have HSM := hide hsm
  rw [← hn] at HB0 HX0 HS HO hlen hL9 hpos ⊢
  have HLN := hide hn
  have HLEN := hide hlen
  rw [hlen] at HO ⊢
  clear hS ho hin hsm hn hlen hi3 hz30 hz31 hz32 hi5 hz50 hz51 hz52
  go_enter Tryz.func23, Tryz.ntmps23
  go_upto_region 1 with fail
  generalize w.alloc (.cells #[.int .i64 (J : Int), .int .i64 (K : Int), .int .i64 (D : Int), .slice (some ⟨gs, 0, none⟩) n cap, .int .i64 pl] 49) = W at *
  have c3 : W.cell? ⟨w.heap.size, 3, none⟩ = some (.slice (some ⟨gs, 0, none⟩) n cap) := blk_cell (unhide HX0) 3
  obtain ⟨base, hbase⟩ : ∃ base, base = W.heap.size := ⟨_, rfl⟩
  have HBS := hide hbase
  clear hbase
  go_wp2_with fail
  go_loopg [7, 8] (n + 1) (fun gk fv i wr => ∃ (k : Nat) (g : Nat → Nat), k ≤ n + 1 ∧ gk = n + 1 - k ∧ i = .int .i64 (k : Int) ∧ Mtx base (n + 1) k fv g Hx.M0 wr ∧ Below base W wr)
  case atStart => exact ⟨0, fun _ => 0, Nat.zero_le _, rfl, rfl, Mtx.nil _ _ _ _, Below.refl _ _⟩
  case round =>
    clear c3
    obtain ⟨k, g, hk, rfl, rfl, hm, hbe⟩ := hrel
    obtain ⟨fo, fc, rfl⟩ := own_form hm.far
    have hbsz : base ≤ wr.heap.size := by rw [unhide HBS]; exact Nat.le_trans (by rw [← unhide HBS]; exact Nat.le_refl _) hbe.size
    have HM := hide hm
    have HBE := hide hbe
    clear hm hbe
    by_cases hlt : k ≤ n
    · have hkI : (k : Int) ≤ (n : Int) := by omega
      go_wp2_with (at_make; refine wpList_make_full _ rfl _ _ 64 rfl base 3 i3 (.int .i64 0) 1 Tryz.underlying64 (unhide HI3) (unhide HZ30) (unhide HZ31) _ _ _ _ (n + 1) rfl rfl (by simp) (by simp) (by rw [unhide HZ32]; omega) (by unfold maxLen; omega) hbsz ?_; intro w2 hown2 hgrow2)
      rw [intCells_made] at hown2
      obtain ⟨r, hr⟩ : ∃ r, r = wr.heap.size := ⟨_, rfl⟩
      rw [← hr] at hown2 ⊢
      have hner : ∀ i, i < k → g i ≠ r := fun i hi => by have := ((unhide HM).ge hi).2; omega
      have hrb : base ≤ r := by omega
      have HNE := hide hner
      have HM2 := hide ((unhide HM).grown hgrow2)
      have HB2 := hide ((unhide HBE).grown hgrow2 hbsz (fun k e => by cases e))
      have HR2 := hide hown2
      clear hown2 hgrow2 hr hner HM HBE
      go_loopg [10] (n + 1) (fun gk j w3 => ∃ (m : Nat) (f : Nat → Int), m ≤ n + 1 ∧ gk = n + 1 - m ∧ j = .int .i64 (m : Int) ∧ (∀ b, b < m → f b = Hx.no) ∧ w3.ownsRow base 3 1 (.slice (some ⟨r, 0, none⟩) (n + 1) (n + 1)) (n + 1) (intCells (n + 1) f) ∧ Mtx base (n + 1) k (.slice fo k fc) g Hx.M0 w3 ∧ Below base W w3)
      case atStart => exact ⟨0, fun _ => 0, Nat.zero_le _, rfl, rfl, fun b hb => absurd hb (Nat.not_lt_zero _), unhide HR2, unhide HM2, unhide HB2⟩
      case round =>
        clear HM2 HB2 HR2
        obtain ⟨m, f, hm, rfl, rfl, hf, hrow, hmt, hbe⟩ := hrel
        have HF := hide hf
        have HR := hide hrow
        have HM := hide hmt
        have HBE := hide hbe
        have fz : ∀ j, wr.frozen? ⟨r, j, none⟩ = false := fun j => hrow.frozenAt j
        by_cases hlm : m ≤ n
        · have hmI : (m : Int) ≤ (n : Int) := by omega
          have hmI2 : (m : Int) < (n : Int) + 1 := by omega
          have hm0 : (0 : Int) ≤ (m : Int) := by omega
          have cm : wr.cell? ⟨r, m, none⟩ = some (.int .i64 (f m)) := by rw [hrow.cellAt m (by omega)]; exact intCells_at (by omega)
          clear hf hrow hmt hbe
          go_wp2_with fail
          go_roundg (n + 1 - (m + 1))
          case measure => omega
          case rel =>
            refine ⟨m + 1, Hx.updT f m Hx.no, by omega, rfl, by go_num, fun b hb => ?_, ?_, (unhide HM).aside (unhide HR) (unhide HNE) m _, (unhide HBE).setCell (p := ⟨r, m, none⟩) hrb _⟩
            · unfold Hx.updT
              split
              · rfl
              · exact unhide HF b (by omega)
            · have h1 := ((unhide HR).stored m (.int .i64 Hx.no)).1
              rw [intCells_set] at h1
              exact h1
        · have hme : m = n + 1 := by omega
          have hmI : ¬ (m : Int) ≤ (n : Int) := by omega
          have ck : wr.cell? ⟨r, k, none⟩ = some (.int .i64 (f k)) := by rw [hrow.cellAt k (by omega)]; exact intCells_at (by omega)
          have hk0 : (0 : Int) ≤ (k : Int) := by omega
          have hkI2 : (k : Int) < (n : Int) + 1 := by omega
          have HM4 := hide (hmt.aside hrow (unhide HNE) k (.int .i64 0))
          have HB4 := hide (hbe.setCell (p := ⟨r, k, none⟩) hrb (.int .i64 0))
          have HR4 : Hid ((wr.setCell ⟨r, k, none⟩ (.int .i64 0)).ownsRow base 3 1 (.slice (some ⟨r, 0, none⟩) (n + 1) (n + 1)) (n + 1) (intCells (n + 1) (Hx.M0 k))) := by
            have h1 := (hrow.stored k (.int .i64 0)).1
            rw [intCells_set] at h1
            have e : intCells (n + 1) (Hx.updT f k 0) = intCells (n + 1) (Hx.M0 k) := by
              unfold intCells
              apply List.map_congr_left
              intro b hb
              have := List.mem_range.1 hb
              unfold Hx.updT Hx.M0
              split
              · rfl
              · rw [hf b (by omega)]
            rw [e] at h1
            exact h1
          clear hf hrow hmt hbe HF HR HM HBE
          go_upto_region 12 with fail
          generalize wr.setCell ⟨r, k, none⟩ (.int .i64 0) = w4 at *
          have hs4 : base ≤ w4.heap.size := Nat.le_trans hrb (Nat.le_of_lt ((unhide HR4).lt r rfl).2)
          clear ck fz
          go_wp2_with (at_builtin; refine wpList_append_own _ rfl _ _ 71 rfl base 64 i5 (.slice none 0 0) 1 24 Tryz.underlying71 (unhide HI5) (unhide HZ50) (unhide HZ51) (unhide HZ52) rfl (by decide) _ _ _ rfl ((unhide HM4).far.alloc _) ⟨w4.heap.size, 0, none⟩ 1 1 [.slice (some ⟨r, 0, none⟩) (n + 1) (n + 1)] rfl rfl (news_new w4 [.slice (some ⟨r, 0, none⟩) (n + 1) (n + 1)] 64) ?d2 ?d3 ?d4 ?d5 ?_)
          case d2 => simp [Value.oneCell']
          case d3 => unfold maxLen; omega
          case d4 => omega
          case d5 => first | omega | (simp; omega)
          · intro v' w5 hown' hgrow _
            have HM5 := hide (Mtx.push (unhide HM4 |>.alloc (.cells #[.slice (some ⟨r, 0, none⟩) (n + 1) (n + 1)] 64)) ((unhide HR4).alloc _) (unhide HNE) hown' hgrow)
            have HB5 := hide ((belA' (.cells #[.slice (some ⟨r, 0, none⟩) (n + 1) (n + 1)] 64) (unhide HB4) hs4).grown hgrow (by simp; omega) (fun q e => ((unhide HM4).far.lt q e).1))
            clear hown' hgrow
            go_wp2_with fail
            go_roundg (n + 1 - (k + 1))
            case measure => omega
            case rel => exact ⟨k + 1, _, by omega, rfl, by go_num, unhide HM5, unhide HB5⟩
    · have hke : k = n + 1 := by omega
      have hkI : ¬ (k : Int) ≤ (n : Int) := by omega
      subst hke
      obtain ⟨fb, fc2, e, hfb1, hfb2⟩ := own_pos (unhide HM).far (by omega)
      cases e
      clear hk hkI
      have HNEW : Hid (∀ i, i < n + 1 → base ≤ g i) := fun i hi => ((unhide HM).ge hi).1
      have HFNE : Hid (∀ i, i < n + 1 → fb ≠ g i) := fun i hi => (unhide HM).ne hi
      go_wp2_with fail
      go_loopg [11] n (fun gk j wr => ∃ m : Nat, m ≤ n ∧ gk = n - m ∧ j = .int .i64 (m : Int) ∧ Mtx base (n + 1) (n + 1) (.slice (some ⟨fb, 0, none⟩) (n + 1) fc) g (Hx.M1 n m) wr ∧ Below base W wr)
      case atStart => exact ⟨0, Nat.zero_le _, rfl, rfl, by rw [Hx.M1_zero]; exact unhide HM, unhide HBE⟩
      case round =>
        clear HM HBE
        obtain ⟨m, hm, rfl, rfl, hmt, hbe⟩ := hrel
        have HM := hide hmt
        have HBE := hide hbe
        by_cases hlm : m < n
        · have hmI : (m : Int) < (n : Int) := by omega
          have hmI2 : (m : Int) < (n : Int) + 1 := by omega
          have hm0 : (0 : Int) ≤ (m : Int) := by omega
          have hn0 : (0 : Int) ≤ (n : Int) := by omega
          have hnI2 : (n : Int) < (n : Int) + 1 := by omega
          have cf : wr.cell? ⟨fb, n, none⟩ = some (.slice (some ⟨g n, 0, none⟩) (n + 1) (n + 1)) := hmt.slot (by omega)
          have cm := hmt.cell (i := n) (j := m) (by omega) (by omega)
          have fz := hmt.fz (i := n) (by omega)
          clear hmt hbe
          go_wp2_with fail
          go_roundg (n - (m + 1))
          case measure => omega
          case rel =>
            refine ⟨m + 1, by omega, rfl, by go_num, ?_, (unhide HBE).setCell (p := ⟨g n, m, none⟩) (unhide HNEW n (by omega)) _⟩
            rw [← Hx.M1_step]
            exact (unhide HM).put (i := n) (by omega) m 0
        · have hme : m = n := by omega
          subst hme
          have hmI : ¬ (m : Int) < (m : Int) := by omega
          have HM1 : Hid (Mtx base (m + 1) (m + 1) (.slice (some ⟨fb, 0, none⟩) (m + 1) fc) g (Hx.M1 m m) wr) := hmt
          clear hmt HM hbe
          have hbw : w.heap.size < base := by rw [unhide HBS]; exact lt_of_block (unhide HX0)
          have HBW : Hid (∀ w', Below base W w' → Below W.heap.size W w') := fun w' h => by rw [← unhide HBS]; exact h
          go_wp2_with fail
          go_loopg [12] m (fun gk j wr => ∃ q kk : Nat, kk = q + 1 ∧ kk ≤ m ∧ gk = m - q ∧ j = .int .i64 (kk : Int) ∧ Mtx base (m + 1) (m + 1) (.slice (some ⟨fb, 0, none⟩) (m + 1) fc) g (Hx.chM J L o (Hx.M1 m m) q) wr ∧ Below base W wr)
          case atStart => exact ⟨0, 1, rfl, by omega, rfl, rfl, unhide HM1, unhide HBE⟩
          case round =>
            clear HM1 HBE
            obtain ⟨q, kk, hkq, hq, rfl, rfl, hmt, hbe⟩ := hrel
            have HKQ := hide hkq
            have HM := hide hmt
            have HBE := hide hbe
            by_cases hlq : kk < m
            · have hqI : (kk : Int) < (m : Int) := by omega
              have hq0 : (0 : Int) ≤ (q : Int) := by omega
              have hq1 : (0 : Int) ≤ (kk : Int) := by omega
              have hqm : (q : Int) < (m : Int) := by omega
              have hkw : IntKind.i64.wrap ((kk : Int) - 1) = (q : Int) := by
                rw [show (kk : Int) - 1 = (q : Int) by omega]
                exact IntWalk.i64_in _ ⟨by omega, by omega⟩
              have hol := unhide HLEN
              obtain ⟨a, ha⟩ : ∃ a, a = o.getD q 0 := ⟨_, rfl⟩
              obtain ⟨b, hb⟩ : ∃ b, b = o.getD (q + 1) 0 := ⟨_, rfl⟩
              have ham : a < m := by
                rw [ha, unhide HLN]
                refine unhide HIN _ ?_
                rw [List.getD_eq_getElem?_getD, List.getElem?_eq_getElem (by omega)]
                exact List.getElem_mem _
              have hbm : b < m := by
                rw [hb, unhide HLN]
                refine unhide HIN _ ?_
                rw [List.getD_eq_getElem?_getD, List.getElem?_eq_getElem (by omega)]
                exact List.getElem_mem _
              obtain ⟨y, hy⟩ : ∃ y, L[a]? = some y := ⟨_, List.getElem?_eq_getElem (by rw [← unhide HLN]; exact ham)⟩
              obtain ⟨hv, hhv⟩ : ∃ hv, hv = y.x.hi := ⟨_, rfl⟩
              have hhv1 : hv < 1000 := by rw [hhv]; exact (unhide HSM y (List.mem_of_getElem? hy)).2.1
              have HNX : Hid (Hx.chM J L o (Hx.M1 m m) (q + 1) = Hx.updM (Hx.chM J L o (Hx.M1 m m) q) a b ((J : Int) + (hv : Int))) := by
                show _ = _
                rw [Hx.chM, ← ha, ← hb]
                simp only [Hx.hiAt, hy, hhv]
              have hgo' : go < W.heap.size := Nat.lt_of_lt_of_le hgo (unhide HB0).size
              have hgs' : gs < W.heap.size := Nat.lt_of_lt_of_le hg (unhide HB0).size
              have s1 : wr.cell? ⟨w.heap.size, 0, none⟩ = some (.int .i64 (J : Int)) := cBl (unhide HBW _ hbe) (blk_cell (unhide HX0) 0)
              have s2 : wr.cell? ⟨w.heap.size, 3, none⟩ = some (.slice (some ⟨gs, 0, none⟩) m cap) := cBl (unhide HBW _ hbe) (blk_cell (unhide HX0) 3)
              have s3 : wr.cell? ⟨go, q, none⟩ = some (.int .i64 (a : Int)) := cBl (unhide HBW _ hbe) (by rw [ha]; exact ord_at (unhide HO) (unhide HLEN).symm (by omega))
              have s4 : wr.cell? ⟨go, kk, none⟩ = some (.int .i64 (b : Int)) := cBl (unhide HBW _ hbe) (by rw [hb, hkq]; exact ord_at (unhide HO) (unhide HLEN).symm (by omega))
              have s5 : wr.cell? ⟨gs, a * 10 + 3, none⟩ = some (.int .i64 (hv : Int)) := cBl (unhide HBW _ hbe) (by
                have h1 := unhide HS
                have h2 : W.ownsRow 0 53 10 (.slice (some ⟨gs, 0, none⟩) L.length cap) L.length (lstsCells L) := by rw [← unhide HLN]; exact h1
                rw [own_lst h2 a y hy 3 (by omega), hhv]; rfl)
              have s6 : wr.cell? ⟨fb, a, none⟩ = some (.slice (some ⟨g a, 0, none⟩) (m + 1) (m + 1)) := hmt.slot (by omega)
              have cm := hmt.cell (i := a) (j := b) (by omega) (by omega)
              have fz := hmt.fz (i := a) (by omega)
              have hga := unhide HNEW a (by omega)
              have haN : (a : Int) < (m : Int) := by omega
              have haI : (a : Int) < (m : Int) + 1 := by omega
              have ha0 : (0 : Int) ≤ (a : Int) := by omega
              have hbI : (b : Int) < (m : Int) + 1 := by omega
              have hb0 : (0 : Int) ≤ (b : Int) := by omega
              have n1 : w.heap.size ≠ g a := by omega
              have n2 : go ≠ g a := by omega
              have n3 : gs ≠ g a := by omega
              have n4 : fb ≠ g a := unhide HFNE a (by omega)
              have hsw : IntKind.i64.wrap ((J : Int) + (hv : Int)) = (J : Int) + (hv : Int) := IntWalk.i64_in _ ⟨by omega, by omega⟩
              have hgk : m - (q + 1) < m - q := by omega
              have HGK := hide hgk
              clear hmt hbe ha hb hy hhv hol hkq hgk
              go_upto_region 20 with fail
              go_region_held3 (fun w' => w'.cell? ⟨w.heap.size, 0, none⟩ = some (.int .i64 (J : Int)) ∧ w'.cell? ⟨w.heap.size, 3, none⟩ = some (.slice (some ⟨gs, 0, none⟩) m cap) ∧ w'.cell? ⟨go, q, none⟩ = some (.int .i64 (a : Int)) ∧ w'.cell? ⟨go, kk, none⟩ = some (.int .i64 (b : Int)) ∧ w'.cell? ⟨gs, a * 10 + 3, none⟩ = some (.int .i64 (hv : Int)) ∧ w'.cell? ⟨fb, a, none⟩ = some (.slice (some ⟨g a, 0, none⟩) (m + 1) (m + 1))) (refine ⟨?_, ?_, ?_, ?_, ?_, ?_⟩ <;> (repeat with_reducible (first | assumption | apply cD | apply cN | refine cS n1 ?_ | refine cS n2 ?_ | refine cS n3 ?_ | refine cS n4 ?_)))
                (first | fail)
              all_goals
                go_wp2_with fail
                go_roundg (m - (q + 1))
                case measure => exact unhide HGK
                case rel =>
                  refine ⟨q + 1, kk + 1, by rw [unhide HKQ], by omega, rfl, by go_num, ?_, (below_drewN (unhide HBE) _).setCell (p := ⟨g a, b, none⟩) hga _⟩
                  rw [unhide HNX]
                  exact ((unhide HM).drewN _).put (i := a) (by omega) b _
            · have hqe : kk = m := by omega
              have hqI : ¬ (kk : Int) < (m : Int) := by omega
              have HM1 : Hid (Mtx base (m + 1) (m + 1) (.slice (some ⟨fb, 0, none⟩) (m + 1) fc) g (Hx.chM J L o (Hx.M1 m m) (m - 1)) wr) := by
                have e : m - 1 = q := by omega
                rw [e]; exact hmt
              obtain ⟨MC, hMC⟩ : ∃ MC, MC = Hx.chM J L o (Hx.M1 m m) (m - 1) := ⟨_, rfl⟩
              rw [← hMC] at HM1
              have HMC := hide hMC
              clear hmt hbe HM hMC
              go_wp2_with fail
              go_loopg [13] m (fun gk j wr => ∃ q kk : Nat, kk = q + 1 ∧ kk ≤ m ∧ gk = m - q ∧ j = .int .i64 (kk : Int) ∧ Mtx base (m + 1) (m + 1) (.slice (some ⟨fb, 0, none⟩) (m + 1) fc) g (Hx.rsM J L MC q) wr ∧ Below base W wr)
              case atStart => exact ⟨0, 1, rfl, by omega, rfl, rfl, unhide HM1, unhide HBE⟩
              case round =>
                clear HM1 HBE hqe hqI HKQ hkq hq
                obtain ⟨q, kk, hkq, hq, rfl, rfl, hmt, hbe⟩ := hrel
                have HKQ := hide hkq
                have HM := hide hmt
                have HBE := hide hbe
                by_cases hlq : kk < m
                · have hqI : (kk : Int) < (m : Int) := by omega
                  have hq0 : (0 : Int) ≤ (q : Int) := by omega
                  have hq1 : (0 : Int) ≤ (kk : Int) := by omega
                  have hqm : (q : Int) < (m : Int) := by omega
                  have hkm1 : (kk : Int) < (m : Int) + 1 := by omega
                  have hqm1 : (q : Int) < (m : Int) + 1 := by omega
                  have hkw : (kk : Int) - 1 = (q : Int) := by omega
                  obtain ⟨x, hx⟩ : ∃ x, L[kk]? = some x := ⟨_, List.getElem?_eq_getElem (by rw [← unhide HLN]; exact hlq)⟩
                  obtain ⟨a, ha⟩ : ∃ a, L[q]? = some a := ⟨_, List.getElem?_eq_getElem (by rw [← unhide HLN]; omega)⟩
                  obtain ⟨sx1, sx2, sx3, sx4⟩ := unhide HSM x (List.mem_of_getElem? hx)
                  obtain ⟨sa1, sa2, sa3, sa4⟩ := unhide HSM a (List.mem_of_getElem? ha)
                  have s1 : wr.cell? ⟨w.heap.size, 0, none⟩ = some (.int .i64 (J : Int)) := cBl (unhide HBW _ hbe) (blk_cell (unhide HX0) 0)
                  have s2 : wr.cell? ⟨w.heap.size, 3, none⟩ = some (.slice (some ⟨gs, 0, none⟩) m cap) := cBl (unhide HBW _ hbe) (blk_cell (unhide HX0) 3)
                  have hrows : W.ownsRow 0 53 10 (.slice (some ⟨gs, 0, none⟩) L.length cap) L.length (lstsCells L) := by rw [← unhide HLN]; exact unhide HS
                  have hgs' : gs < W.heap.size := Nat.lt_of_lt_of_le hg (unhide HB0).size
                  have cx : ∀ j, j < 10 → wr.cell? ⟨gs, kk * 10 + j, none⟩ = (lstCells x)[j]? := fun j hj => by
                    rw [(unhide HBW _ hbe).cell (p := ⟨gs, kk * 10 + j, none⟩) hgs', own_lst hrows kk x hx j hj]
                  have HCA : Hid (∀ w', Below base W w' → ∀ j, j < 10 → w'.cell? ⟨gs, q * 10 + j, none⟩ = (lstCells a)[j]?) := fun w' hb j hj => by
                    rw [(unhide HBW _ hb).cell (p := ⟨gs, q * 10 + j, none⟩) hgs', own_lst hrows q a ha j hj]
                  have x0 : wr.cell? ⟨gs, kk * 10, none⟩ = some (.int .i64 (x.pl : Int)) := cx 0 (by omega)
                  have x1 : wr.cell? ⟨gs, kk * 10 + 1, none⟩ = some (.int .i64 (x.no : Int)) := cx 1 (by omega)
                  have x2 : wr.cell? ⟨gs, kk * 10 + 2, none⟩ = some (.int .i64 (x.x.lo : Int)) := cx 2 (by omega)
                  have x3 : wr.cell? ⟨gs, kk * 10 + 3, none⟩ = some (.int .i64 (x.x.hi : Int)) := cx 3 (by omega)
                  have x4 : wr.cell? ⟨gs, kk * 10 + 4, none⟩ = some (.bool x.x.rest) := cx 4 (by omega)
                  have x5 : wr.cell? ⟨gs, kk * 10 + 5, none⟩ = some (.int .i64 (x.x.mn : Int)) := cx 5 (by omega)
                  have x6 : wr.cell? ⟨gs, kk * 10 + 6, none⟩ = some (.int .i64 (x.x.mx : Int)) := cx 6 (by omega)
                  have x7 : wr.cell? ⟨gs, kk * 10 + 7, none⟩ = some (.int .i64 0) := cx 7 (by omega)
                  have x8 : wr.cell? ⟨gs, kk * 10 + 8, none⟩ = some (.int .i64 0) := cx 8 (by omega)
                  have x9 : wr.cell? ⟨gs, kk * 10 + 9, none⟩ = some (.int .i64 0) := cx 9 (by omega)
                  have HNX : Hid (Hx.rsM J L MC (q + 1) = Hx.restM J L (Hx.rsM J L MC q) kk) := by
                    show _ = _
                    rw [Hx.rsM, hkq]
                  have HRM : Hid (∀ M, Hx.restM J L M kk = if x.x.rest then Hx.maxM (Hx.maxM M q kk ((J : Int) + a.x.hi + x.x.mn)) kk q ((J : Int) - a.x.lo - x.x.mx) else M) := fun M => by
                    have e : kk - 1 = q := by omega
                    unfold Hx.restM
                    rw [e, hx, ha]
                  have HGK : Hid (m - (q + 1) < m - q) := by show _ < _; omega
                  obtain ⟨xb, hxb⟩ : ∃ xb, xb = wr.heap.size := ⟨_, rfl⟩
                  have HXB := hide (bN #[.int .i64 (x.pl : Int), .int .i64 (x.no : Int), .int .i64 (x.x.lo : Int), .int .i64 (x.x.hi : Int), .bool x.x.rest, .int .i64 (x.x.mn : Int), .int .i64 (x.x.mx : Int), .int .i64 0, .int .i64 0, .int .i64 0] 53 (w := wr) hxb)
                  have HM5 := hide (Mtx.alloc (.cells #[.int .i64 (x.pl : Int), .int .i64 (x.no : Int), .int .i64 (x.x.lo : Int), .int .i64 (x.x.hi : Int), .bool x.x.rest, .int .i64 (x.x.mn : Int), .int .i64 (x.x.mx : Int), .int .i64 0, .int .i64 0, .int .i64 0] 53) hmt)
                  have hbs : base ≤ wr.heap.size := by rw [unhide HBS]; exact Nat.le_trans (unhide HBW _ hbe).size (Nat.le_refl _)
                  have HB5 := hide (belA' (.cells #[.int .i64 (x.pl : Int), .int .i64 (x.no : Int), .int .i64 (x.x.lo : Int), .int .i64 (x.x.hi : Int), .bool x.x.rest, .int .i64 (x.x.mn : Int), .int .i64 (x.x.mx : Int), .int .i64 0, .int .i64 0, .int .i64 0] 53) hbe hbs)
                  have hxbb : base ≤ xb := by rw [hxb]; exact hbs
                  clear hmt hbe hx ha cx hrows HM HBE hkq
                  go_upto_region 25 with fail
                  rw [← hxb]
                  clear hxb x0 x1 x2 x3 x4 x5 x6 x7 x8 x9 s1 s2
                  generalize wr.alloc (.cells #[.int .i64 (x.pl : Int), .int .i64 (x.no : Int), .int .i64 (x.x.lo : Int), .int .i64 (x.x.hi : Int), .bool x.x.rest, .int .i64 (x.x.mn : Int), .int .i64 (x.x.mx : Int), .int .i64 0, .int .i64 0, .int .i64 0] 53) = w5 at *
                  have y4 : w5.cell? ⟨xb, 4, none⟩ = some (.bool x.x.rest) := blk_cell (unhide HXB) 4
                  cases hr : x.x.rest with
                  | false =>
                    have HEND : Hid (Hx.rsM J L MC (q + 1) = Hx.rsM J L MC q) := by show _ = _; rw [unhide HNX, unhide HRM, hr]; rfl
                    rw [hr] at y4
                    clear hr
                    go_wp2_with fail
                    go_roundg (m - (q + 1))
                    case measure => exact unhide HGK
                    case rel => exact ⟨q + 1, kk + 1, by rw [unhide HKQ], by omega, rfl, by go_num, by rw [unhide HEND]; exact unhide HM5, unhide HB5⟩
                  | true =>
                    obtain ⟨M, hM⟩ : ∃ M, M = Hx.rsM J L MC q := ⟨_, rfl⟩
                    have HEND : Hid (Hx.rsM J L MC (q + 1) = Hx.maxM (Hx.maxM M q kk ((J : Int) + a.x.hi + x.x.mn)) kk q ((J : Int) - a.x.lo - x.x.mx)) := by show _ = _; rw [unhide HNX, unhide HRM, hr, hM]; rfl
                    rw [← hM] at HM5
                    rw [hr] at y4
                    clear hr hM
                    have s2 : w5.cell? ⟨w.heap.size, 3, none⟩ = some (.slice (some ⟨gs, 0, none⟩) m cap) := cBl (unhide HBW _ (unhide HB5)) (blk_cell (unhide HX0) 3)
                    have a0 : w5.cell? ⟨gs, q * 10, none⟩ = some (.int .i64 (a.pl : Int)) := unhide HCA _ (unhide HB5) 0 (by omega)
                    have a1 : w5.cell? ⟨gs, q * 10 + 1, none⟩ = some (.int .i64 (a.no : Int)) := unhide HCA _ (unhide HB5) 1 (by omega)
                    have a2 : w5.cell? ⟨gs, q * 10 + 2, none⟩ = some (.int .i64 (a.x.lo : Int)) := unhide HCA _ (unhide HB5) 2 (by omega)
                    have a3 : w5.cell? ⟨gs, q * 10 + 3, none⟩ = some (.int .i64 (a.x.hi : Int)) := unhide HCA _ (unhide HB5) 3 (by omega)
                    have a4 : w5.cell? ⟨gs, q * 10 + 4, none⟩ = some (.bool a.x.rest) := unhide HCA _ (unhide HB5) 4 (by omega)
                    have a5 : w5.cell? ⟨gs, q * 10 + 5, none⟩ = some (.int .i64 (a.x.mn : Int)) := unhide HCA _ (unhide HB5) 5 (by omega)
                    have a6 : w5.cell? ⟨gs, q * 10 + 6, none⟩ = some (.int .i64 (a.x.mx : Int)) := unhide HCA _ (unhide HB5) 6 (by omega)
                    have a7 : w5.cell? ⟨gs, q * 10 + 7, none⟩ = some (.int .i64 0) := unhide HCA _ (unhide HB5) 7 (by omega)
                    have a8 : w5.cell? ⟨gs, q * 10 + 8, none⟩ = some (.int .i64 0) := unhide HCA _ (unhide HB5) 8 (by omega)
                    have a9 : w5.cell? ⟨gs, q * 10 + 9, none⟩ = some (.int .i64 0) := unhide HCA _ (unhide HB5) 9 (by omega)
                    obtain ⟨ab, hab⟩ : ∃ ab, ab = w5.heap.size := ⟨_, rfl⟩
                    have hbs5 : base ≤ w5.heap.size := Nat.le_trans hxbb (Nat.le_of_lt (lt_of_block (unhide HXB)))
                    have HAB := hide (bN #[.int .i64 (a.pl : Int), .int .i64 (a.no : Int), .int .i64 (a.x.lo : Int), .int .i64 (a.x.hi : Int), .bool a.x.rest, .int .i64 (a.x.mn : Int), .int .i64 (a.x.mx : Int), .int .i64 0, .int .i64 0, .int .i64 0] 53 (w := w5) hab)
                    have HXB6 := hide (bA (.cells #[.int .i64 (a.pl : Int), .int .i64 (a.no : Int), .int .i64 (a.x.lo : Int), .int .i64 (a.x.hi : Int), .bool a.x.rest, .int .i64 (a.x.mn : Int), .int .i64 (a.x.mx : Int), .int .i64 0, .int .i64 0, .int .i64 0] 53) (unhide HXB))
                    have HM6 := hide (Mtx.alloc (.cells #[.int .i64 (a.pl : Int), .int .i64 (a.no : Int), .int .i64 (a.x.lo : Int), .int .i64 (a.x.hi : Int), .bool a.x.rest, .int .i64 (a.x.mn : Int), .int .i64 (a.x.mx : Int), .int .i64 0, .int .i64 0, .int .i64 0] 53) (unhide HM5))
                    have HB6 := hide (belA' (.cells #[.int .i64 (a.pl : Int), .int .i64 (a.no : Int), .int .i64 (a.x.lo : Int), .int .i64 (a.x.hi : Int), .bool a.x.rest, .int .i64 (a.x.mn : Int), .int .i64 (a.x.mx : Int), .int .i64 0, .int .i64 0, .int .i64 0] 53) (unhide HB5) hbs5)
                    clear HM5 HB5 HXB
                    go_upto_region 27 with fail
                    rw [← hab]
                    clear hab a0 a1 a2 a3 a4 a5 a6 a7 a8 a9 s2 y4
                    generalize w5.alloc (.cells #[.int .i64 (a.pl : Int), .int .i64 (a.no : Int), .int .i64 (a.x.lo : Int), .int .i64 (a.x.hi : Int), .bool a.x.rest, .int .i64 (a.x.mn : Int), .int .i64 (a.x.mx : Int), .int .i64 0, .int .i64 0, .int .i64 0] 53) = w6 at *
                    have s1 : w6.cell? ⟨w.heap.size, 0, none⟩ = some (.int .i64 (J : Int)) := cBl (unhide HBW _ (unhide HB6)) (blk_cell (unhide HX0) 0)
                    have y5 : w6.cell? ⟨xb, 5, none⟩ = some (.int .i64 (x.x.mn : Int)) := blk_cell (unhide HXB6) 5
                    have z3 : w6.cell? ⟨ab, 3, none⟩ = some (.int .i64 (a.x.hi : Int)) := blk_cell (unhide HAB) 3
                    have f1 : w6.cell? ⟨fb, q, none⟩ = some (.slice (some ⟨g q, 0, none⟩) (m + 1) (m + 1)) := (unhide HM6).slot (by omega)
                    have m1 := (unhide HM6).cell (i := q) (j := kk) (by omega) (by omega)
                    have fz := (unhide HM6).fz (i := q) (by omega)
                    have hgq := unhide HNEW q (by omega)
                    have hgk := unhide HNEW kk (by omega)
                    have hnx : xb ≠ g q := fun e => own_not_box ((unhide HM6).row q (by omega)) (unhide HXB6) (by decide) (by rw [e]; rfl)
                    have hna : ab ≠ g q := fun e => own_not_box ((unhide HM6).row q (by omega)) (unhide HAB) (by decide) (by rw [e]; rfl)
                    have hnx2 : xb ≠ g kk := fun e => own_not_box ((unhide HM6).row kk (by omega)) (unhide HXB6) (by decide) (by rw [e]; rfl)
                    have hna2 : ab ≠ g kk := fun e => own_not_box ((unhide HM6).row kk (by omega)) (unhide HAB) (by decide) (by rw [e]; rfl)
                    obtain ⟨lw, hlw⟩ : ∃ lw, lw = (J : Int) + (a.x.hi : Int) + (x.x.mn : Int) := ⟨_, rfl⟩
                    obtain ⟨bk, hbk⟩ : ∃ bk, bk = (J : Int) - (a.x.lo : Int) - (x.x.mx : Int) := ⟨_, rfl⟩
                    rw [← hlw, ← hbk] at HEND
                    go_upto_region 28 with fail
                    rw [← hlw]
                    have HLW := hide hlw
                    clear hlw
                    obtain ⟨M2, hM2⟩ : ∃ M2, M2 = Hx.maxM M q kk lw := ⟨_, rfl⟩
                    rw [← hM2] at HEND
                    go_upto_if 126 with fail
                    go_cut [] (fun wc => Mtx base (m + 1) (m + 1) (.slice (some ⟨fb, 0, none⟩) (m + 1) fc) g M2 wc ∧ Below base W wc ∧ wc.heap[xb]? = some (.cells #[.int .i64 (x.pl : Int), .int .i64 (x.no : Int), .int .i64 (x.x.lo : Int), .int .i64 (x.x.hi : Int), .bool x.x.rest, .int .i64 (x.x.mn : Int), .int .i64 (x.x.mx : Int), .int .i64 0, .int .i64 0, .int .i64 0] 53 (0, 0)) ∧ wc.heap[ab]? = some (.cells #[.int .i64 (a.pl : Int), .int .i64 (a.no : Int), .int .i64 (a.x.lo : Int), .int .i64 (a.x.hi : Int), .bool a.x.rest, .int .i64 (a.x.mn : Int), .int .i64 (a.x.mx : Int), .int .i64 0, .int .i64 0, .int .i64 0] 53 (0, 0)))
                    case first =>
                      by_cases hc : M q kk < lw
                      · have HE : Hid (M2 = Hx.updM M q kk lw) := by show _ = _; rw [hM2, Hx.maxM, if_pos hc]
                        clear hM2
                        go_wp2_with fail
                        go_meet
                        case rel => exact ⟨by rw [unhide HE]; exact (unhide HM6).put (i := q) (by omega) kk lw, (unhide HB6).setCell (p := ⟨g q, kk, none⟩) hgq _, blk_set_other (unhide HXB6) hnx _ _, blk_set_other (unhide HAB) hna _ _⟩
                      · have HE : Hid (M2 = M) := by show _ = _; rw [hM2, Hx.maxM, if_neg hc]
                        clear hM2
                        go_wp2_with fail
                        go_meet
                        case rel => exact ⟨by rw [unhide HE]; exact unhide HM6, unhide HB6, unhide HXB6, unhide HAB⟩
                    case rest =>
                      obtain ⟨hm7, hb7, hx7, ha7⟩ := hcut
                      clear HM6 HB6 HXB6 HAB s1 y5 z3 f1 m1 fz hM2
                      have s1 : wc.cell? ⟨w.heap.size, 0, none⟩ = some (.int .i64 (J : Int)) := cBl (unhide HBW _ hb7) (blk_cell (unhide HX0) 0)
                      have y6 : wc.cell? ⟨xb, 6, none⟩ = some (.int .i64 (x.x.mx : Int)) := blk_cell hx7 6
                      have z2 : wc.cell? ⟨ab, 2, none⟩ = some (.int .i64 (a.x.lo : Int)) := blk_cell ha7 2
                      have f1 : wc.cell? ⟨fb, kk, none⟩ = some (.slice (some ⟨g kk, 0, none⟩) (m + 1) (m + 1)) := hm7.slot (by omega)
                      have m1 := hm7.cell (i := kk) (j := q) (by omega) (by omega)
                      have fz := hm7.fz (i := kk) (by omega)
                      have HM7 := hide hm7
                      have HB7 := hide hb7
                      clear hm7 hb7 hx7 ha7
                      go_upto_region 31 with fail
                      rw [← hbk]
                      have HBK := hide hbk
                      clear hbk
                      by_cases hc : M2 kk q < bk
                      · have HE : Hid (Hx.rsM J L MC (q + 1) = Hx.updM M2 kk q bk) := by show _ = _; rw [unhide HEND, Hx.maxM, if_pos hc]
                        go_wp2_with fail
                        go_roundg (m - (q + 1))
                        case measure => exact unhide HGK
                        case rel => exact ⟨q + 1, kk + 1, by rw [unhide HKQ], by omega, rfl, by go_num, by rw [unhide HE]; exact (unhide HM7).put (i := kk) (by omega) q bk, (unhide HB7).setCell (p := ⟨g kk, q, none⟩) hgk _⟩
                      · have HE : Hid (Hx.rsM J L MC (q + 1) = M2) := by show _ = _; rw [unhide HEND, Hx.maxM, if_neg hc]
                        go_wp2_with fail
                        go_roundg (m - (q + 1))
                        case measure => exact unhide HGK
                        case rel => exact ⟨q + 1, kk + 1, by rw [unhide HKQ], by omega, rfl, by go_num, by rw [unhide HE]; exact unhide HM7, unhide HB7⟩
                · have hqe : kk = m := by omega
                  have hqI : ¬ (kk : Int) < (m : Int) := by omega
                  obtain ⟨T, hT⟩ : ∃ T, T = Hx.tabM J L o := ⟨_, rfl⟩
                  have HM1 : Hid (Mtx base (m + 1) (m + 1) (.slice (some ⟨fb, 0, none⟩) (m + 1) fc) g T wr) := by
                    have e : q = m - 1 := by omega
                    rw [hT, Hx.tabM, ← unhide HLN, ← unhide HMC, ← e]; exact hmt
                  rw [← hT] at HDG HBD
                  have HT := hide hT
                  clear hmt hbe HM hT
                  go_wp2_with fail
                  go_loopg [18] (m + 1) (fun gk jj wr => ∃ k : Nat, k ≤ m + 1 ∧ gk = m + 1 - k ∧ jj = .int .i64 (k : Int) ∧ Mtx base (m + 1) (m + 1) (.slice (some ⟨fb, 0, none⟩) (m + 1) fc) g (Hx.fwI T k) wr ∧ Below base W wr ∧ Hid (∀ c i, c < k → i < m + 1 → Hx.fwI T (c + 1) i i ≤ 0))
                  case atStart => exact ⟨0, Nat.zero_le _, rfl, rfl, unhide HM1, unhide HBE, fun c i hc => absurd hc (Nat.not_lt_zero _)⟩
                  case round =>
                    clear HM1 HBE hqe hqI HKQ hkq hq hlq
                    obtain ⟨k, hk, rfl, rfl, hmt, hbe, HOK⟩ := hrel
                    have HM := hide hmt
                    have HBE := hide hbe
                    clear hmt hbe
                    by_cases hlk : k ≤ m
                    · have hkI : (k : Int) ≤ (m : Int) := by omega
                      have hk0 : (0 : Int) ≤ (k : Int) := by omega
                      have hkI1 : (k : Int) < (m : Int) + 1 := by omega
                      obtain ⟨M, hM⟩ : ∃ M, M = Hx.fwI T k := ⟨_, rfl⟩
                      rw [← hM] at HM
                      have HKK : Hid (M k k = 0) := by
                        show _ = _
                        have h1 := Hx.fwI_ge T k k k
                        rw [unhide HDG k] at h1
                        rw [hM]
                        cases k with
                        | zero => exact unhide HDG 0
                        | succ c =>
                          have := unhide HOK c (c + 1) (by omega) (by omega)
                          omega
                      have HMB : Hid (∀ a b, Hx.no ≤ M a b ∧ M a b ≤ 4096000) := fun a b => by
                        have h1 := unhide HBD k a b
                        rw [hM]
                        have h2 : (2 : Int) ^ k ≤ 2 ^ 10 := by
                          have : (2 : Nat) ^ k ≤ 2 ^ 10 := Nat.pow_le_pow_right (by omega) (by omega)
                          exact_mod_cast this
                        have h3 : (2 : Int) ^ 10 = 1024 := by decide
                        omega
                      have HNX : Hid (Hx.relI M k = Hx.fwI T (k + 1)) := by show _ = _; rw [hM]; rfl
                      clear hM
                      go_wp2_with fail
                      go_loopg [19] (m + 1) (fun gk jj wr => ∃ i : Nat, i ≤ m + 1 ∧ gk = m + 1 - i ∧ jj = .int .i64 (i : Int) ∧ Mtx base (m + 1) (m + 1) (.slice (some ⟨fb, 0, none⟩) (m + 1) fc) g (Hx.mixI M k i 0) wr ∧ Below base W wr)
                      case atStart => exact ⟨0, Nat.zero_le _, rfl, rfl, by rw [Hx.mixI_start]; exact unhide HM, unhide HBE⟩
                      case round =>
                        clear HM HBE
                        obtain ⟨i, hi, rfl, rfl, hmt, hbe⟩ := hrel
                        have HM := hide hmt
                        have HBE := hide hbe
                        clear hmt hbe
                        by_cases hli : i ≤ m
                        · have hiI : (i : Int) ≤ (m : Int) := by omega
                          have hi0 : (0 : Int) ≤ (i : Int) := by omega
                          have hiI1 : (i : Int) < (m : Int) + 1 := by omega
                          go_wp2_with fail
                          go_loopg [20] (m + 1) (fun gk jj wr => ∃ j : Nat, j ≤ m + 1 ∧ gk = m + 1 - j ∧ jj = .int .i64 (j : Int) ∧ Mtx base (m + 1) (m + 1) (.slice (some ⟨fb, 0, none⟩) (m + 1) fc) g (Hx.mixI M k i j) wr ∧ Below base W wr)
                          case atStart => exact ⟨0, Nat.zero_le _, rfl, rfl, unhide HM, unhide HBE⟩
                          case round =>
                            clear HM HBE
                            obtain ⟨j, hj, rfl, rfl, hmt, hbe⟩ := hrel
                            have HM := hide hmt
                            have HBE := hide hbe
                            by_cases hlj : j ≤ m
                            · have hjI : (j : Int) ≤ (m : Int) := by omega
                              have hj0 : (0 : Int) ≤ (j : Int) := by omega
                              have hjI1 : (j : Int) < (m : Int) + 1 := by omega
                              obtain ⟨ik, hik⟩ : ∃ ik, ik = M i k := ⟨_, rfl⟩
                              obtain ⟨kj, hkj⟩ : ∃ kj, kj = M k j := ⟨_, rfl⟩
                              obtain ⟨ij, hij⟩ : ∃ ij, ij = M i j := ⟨_, rfl⟩
                              have fi : wr.cell? ⟨fb, i, none⟩ = some (.slice (some ⟨g i, 0, none⟩) (m + 1) (m + 1)) := hmt.slot (by omega)
                              have fk : wr.cell? ⟨fb, k, none⟩ = some (.slice (some ⟨g k, 0, none⟩) (m + 1) (m + 1)) := hmt.slot (by omega)
                              have c1 : wr.cell? ⟨g i, k, none⟩ = some (.int .i64 ik) := by rw [hmt.cell (by omega) (by omega), Hx.mixI_col (unhide HKK), hik]
                              have c2 : wr.cell? ⟨g k, j, none⟩ = some (.int .i64 kj) := by rw [hmt.cell (by omega) (by omega), Hx.mixI_row (unhide HKK), hkj]
                              have c3 : wr.cell? ⟨g i, j, none⟩ = some (.int .i64 ij) := by rw [hmt.cell (by omega) (by omega), Hx.mixI_here, hij]
                              have hb1 : Hx.no ≤ ik ∧ ik ≤ 4096000 := by rw [hik]; exact unhide HMB _ _
                              have hb2 : Hx.no ≤ kj ∧ kj ≤ 4096000 := by rw [hkj]; exact unhide HMB _ _
                              have hb3 : Hx.no ≤ ij ∧ ij ≤ 4096000 := by rw [hij]; exact unhide HMB _ _
                              unfold Hx.no at hb1 hb2 hb3
                              have hw : IntKind.i64.wrap (ik + kj) = ik + kj := IntWalk.i64_in _ ⟨by omega, by omega⟩
                              have HREL : Hid (Hx.relI M k i j = if (-1099511627776 : Int) < ik ∧ (-1099511627776 : Int) < kj ∧ ij < ik + kj then ik + kj else ij) := by show _ = _; rw [Hx.relI, ← hik, ← hkj, ← hij]; rfl
                              have HGK : Hid (m + 1 - (j + 1) < m + 1 - j) := by show _ < _; omega
                              have HIJ := hide hij
                              by_cases hup : (-1099511627776 : Int) < ik ∧ (-1099511627776 : Int) < kj ∧ ij < ik + kj
                              · obtain ⟨u1, u2, u3⟩ := hup
                                have HE : Hid (Hx.mixI M k i (j + 1) = Hx.updM (Hx.mixI M k i j) i j (ik + kj)) := by show _ = _; rw [← Hx.mixI_step, unhide HREL, if_pos ⟨u1, u2, u3⟩]
                                have hjk : k ≠ j := fun e => by
                                  subst e
                                  have := unhide HKK
                                  omega
                                have hik2 : k ≠ i := fun e => by
                                  subst e
                                  have := unhide HKK
                                  omega
                                have nfi : fb ≠ g i := unhide HFNE i (by omega)
                                have nki : g k ≠ g i := fun e => hik2 (hmt.inj k i (by omega) (by omega) e)
                                have fz := hmt.fz (i := i) (by omega)
                                have hgi := unhide HNEW i (by omega)
                                clear hmt hbe hik hkj hij hik2
                                go_upto_region 42 with fail
                                go_quiet (fail)
                                go_upto_region 43 with fail
                                go_region_held3 (fun w' => w'.cell? ⟨fb, i, none⟩ = some (.slice (some ⟨g i, 0, none⟩) (m + 1) (m + 1)) ∧ w'.cell? ⟨fb, k, none⟩ = some (.slice (some ⟨g k, 0, none⟩) (m + 1) (m + 1)) ∧ w'.cell? ⟨g i, k, none⟩ = some (.int .i64 ik) ∧ w'.cell? ⟨g k, j, none⟩ = some (.int .i64 kj)) (refine ⟨?_, ?_, ?_, ?_⟩ <;> (repeat with_reducible (first | assumption | apply cD | apply cN | refine cS nfi ?_ | refine cS nki ?_ | refine cSo hjk ?_)))
                                  (first | fail)
                                all_goals
                                  go_wp2_with fail
                                  go_roundg (m + 1 - (j + 1))
                                  case measure => exact unhide HGK
                                  case rel =>
                                    refine ⟨j + 1, by omega, rfl, by go_num, ?_, ?_⟩
                                    · rw [unhide HE]
                                      exact ((unhide HM).drewN _).put (i := i) (by omega) j _
                                    · exact (below_drewN (unhide HBE) _).setCell (p := ⟨g i, j, none⟩) hgi _
                              · have HE : Hid (Hx.mixI M k i (j + 1) = Hx.mixI M k i j) := by
                                  show _ = _
                                  rw [← Hx.mixI_same]
                                  rw [unhide HREL, if_neg hup, hij]
                                clear hmt hbe hik hkj hij
                                by_cases u1 : (-1099511627776 : Int) < ik
                                · by_cases u2 : (-1099511627776 : Int) < kj
                                  · have u3 : ¬ ij < ik + kj := fun h => hup ⟨u1, u2, h⟩
                                    clear hup
                                    go_upto_region 42 with fail
                                    go_quiet (fail)
                                    go_wp2_with fail
                                    go_roundg (m + 1 - (j + 1))
                                    case measure => exact unhide HGK
                                    case rel => exact ⟨j + 1, by omega, rfl, by go_num, by rw [unhide HE]; exact (unhide HM).drewN _, below_drewN (unhide HBE) _⟩
                                  · clear hup
                                    go_upto_region 42 with fail
                                    go_quiet (fail)
                                    go_wp2_with fail
                                    go_roundg (m + 1 - (j + 1))
                                    case measure => exact unhide HGK
                                    case rel => exact ⟨j + 1, by omega, rfl, by go_num, by rw [unhide HE]; exact (unhide HM).drewN _, below_drewN (unhide HBE) _⟩
                                · clear hup
                                  go_upto_region 42 with fail
                                  go_quiet (fail)
                                  go_wp2_with fail
                                  go_roundg (m + 1 - (j + 1))
                                  case measure => exact unhide HGK
                                  case rel => exact ⟨j + 1, by omega, rfl, by go_num, by rw [unhide HE]; exact (unhide HM).drewN _, below_drewN (unhide HBE) _⟩
                            · have hjI : ¬ (j : Int) ≤ (m : Int) := by omega
                              have hje : j = m + 1 := by omega
                              have HM2 : Hid (Mtx base (m + 1) (m + 1) (.slice (some ⟨fb, 0, none⟩) (m + 1) fc) g (Hx.mixI M k (i + 1) 0) wr) := hmt.same (fun a b _ hb => by
                                unfold Hx.mixI
                                by_cases c : a < i ∨ (a = i ∧ b < j)
                                · rw [if_pos c, if_pos (by omega)]
                                · rw [if_neg c, if_neg (by omega)])
                              clear hmt hbe HM hje
                              go_wp2_with fail
                              go_roundg (m + 1 - (i + 1))
                              case measure => omega
                              case rel => exact ⟨i + 1, by omega, rfl, by go_num, unhide HM2, unhide HBE⟩
                        · have hiI : ¬ (i : Int) ≤ (m : Int) := by omega
                          have hie : i = m + 1 := by omega
                          have HM2 : Hid (Mtx base (m + 1) (m + 1) (.slice (some ⟨fb, 0, none⟩) (m + 1) fc) g (Hx.fwI T (k + 1)) wr) := (unhide HM).same (fun a b ha _ => by
                            rw [← unhide HNX]
                            unfold Hx.mixI
                            rw [if_pos (by omega)])
                          clear HM hie
                          go_wp2_with fail
                          go_loopg [21] (m + 1) (fun gk jj wr => ∃ i : Nat, i ≤ m + 1 ∧ gk = m + 1 - i ∧ jj = .int .i64 (i : Int) ∧ Mtx base (m + 1) (m + 1) (.slice (some ⟨fb, 0, none⟩) (m + 1) fc) g (Hx.fwI T (k + 1)) wr ∧ Below base W wr ∧ Hid (∀ c, c < i → Hx.fwI T (k + 1) c c ≤ 0))
                          case atStart => exact ⟨0, Nat.zero_le _, rfl, rfl, unhide HM2, unhide HBE, fun c hc => absurd hc (Nat.not_lt_zero _)⟩
                          case round =>
                            clear HM2 HBE hiI hi
                            obtain ⟨i, hi, rfl, rfl, hmt, hbe, HOI⟩ := hrel
                            have HM2 := hide hmt
                            have HBE := hide hbe
                            by_cases hli : i ≤ m
                            · have hiI : (i : Int) ≤ (m : Int) := by omega
                              have hi0 : (0 : Int) ≤ (i : Int) := by omega
                              have hiI1 : (i : Int) < (m : Int) + 1 := by omega
                              obtain ⟨d, hd⟩ : ∃ d, d = Hx.fwI T (k + 1) i i := ⟨_, rfl⟩
                              have fi : wr.cell? ⟨fb, i, none⟩ = some (.slice (some ⟨g i, 0, none⟩) (m + 1) (m + 1)) := hmt.slot (by omega)
                              have ci : wr.cell? ⟨g i, i, none⟩ = some (.int .i64 d) := by rw [hmt.cell (by omega) (by omega), hd]
                              have HD := hide hd
                              clear hmt hbe hd
                              by_cases hdp : 0 < d
                              · go_wp2_with fail
                                go_returns
                                refine ⟨(unhide HB0).trans ((unhide HBE).mono (Nat.le_of_lt hbw)), Or.inl ⟨⟨k, i, ?_, ?_, ?_⟩, rfl⟩⟩
                                · rw [← unhide HLN]; omega
                                · rw [← unhide HLN]; omega
                                · rw [← unhide HT, ← unhide HD]; exact hdp
                              · have HOI2 : Hid (∀ c, c < i + 1 → Hx.fwI T (k + 1) c c ≤ 0) := fun c hc => by
                                  by_cases e : c = i
                                  · subst e; rw [← unhide HD]; omega
                                  · exact unhide HOI c (by omega)
                                go_wp2_with fail
                                go_roundg (m + 1 - (i + 1))
                                case measure => omega
                                case rel => exact ⟨i + 1, by omega, rfl, by go_num, unhide HM2, unhide HBE, HOI2⟩
                            · have hiI : ¬ (i : Int) ≤ (m : Int) := by omega
                              have HOK2 : Hid (∀ c i, c < k + 1 → i < m + 1 → Hx.fwI T (c + 1) i i ≤ 0) := fun c a hc ha => by
                                by_cases e : c = k
                                · subst e; exact unhide HOI a (by omega)
                                · exact unhide HOK c a (by omega) ha
                              clear hmt hbe
                              go_wp2_with fail
                              go_roundg (m + 1 - (k + 1))
                              case measure => omega
                              case rel => exact ⟨k + 1, by omega, rfl, by go_num, unhide HM2, unhide HBE, HOK2⟩
                    · have hkI : ¬ (k : Int) ≤ (m : Int) := by omega
                      have hke : k = m + 1 := by omega
                      have fm : wr.cell? ⟨fb, m, none⟩ = some (.slice (some ⟨g m, 0, none⟩) (m + 1) (m + 1)) := (unhide HM).slot (by omega)
                      have hm0 : (0 : Int) ≤ (m : Int) := by omega
                      have hmI1 : (m : Int) < (m : Int) + 1 := by omega
                      have hmI2 : (m : Int) ≤ (m : Int) + 1 := by omega
                      have HFIN : Hid (TimesRes J L o w (.returned (.tuple #[.slice (some ⟨g m, 0, none⟩) m (m + 1), .bool true])) wr) := by
                        refine ⟨(unhide HB0).trans ((unhide HBE).mono (Nat.le_of_lt hbw)), Or.inr ⟨fun c i hc hi => ?_, g m, ?_, ((unhide HM).ge (by omega)).2, fun j hj => ?_⟩⟩
                        · rw [← unhide HLN] at hc hi
                          rw [← unhide HT]
                          exact unhide HOK c i (by omega) hi
                        · rw [← unhide HLN]
                        · rw [← unhide HLN] at hj ⊢
                          rw [(unhide HM).cell (by omega) (by omega), ← unhide HT, hke]
                      clear hke
                      go_wp2_with fail
                      go_returns
                      exact unhide HFIN

end Go.Proofs.YtppcnlkhdgmaiabGreatDoor
