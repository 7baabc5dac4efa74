/- What the document's looks does: the times at which the machine looks at its clock. -/
import Derived.Test.YtppcnlkhdgmaiaaGreatDoorRgG
import Derived.Test.YtppcnlkhdgmaiaaGreatDoorRgL
import Derived.Test.YtppcnlkhdgmaiaaGreatDoorRgI
import Derived.Test.YtppcnlkhdgmaiaaGreatDoorPm
import Derived.Deep.RegionLaw
namespace Go.Proofs.YtppcnlkhdgmaiaaGreatDoor
open Go.RowKit

/-- The looks, from the first on. -/
def Hx.lookL (clock : List Nat) : List Int := Hx.sumsF 0 clock
theorem Hx.sumsF_snoc (t : Nat) (cs : List Nat) (c : Nat) : Hx.sumsF t (cs ++ [c]) = Hx.sumsF t cs ++ [((t + cs.sum + c : Nat) : Int)] := by
  induction cs generalizing t with
  | nil => simp [Hx.sumsF]
  | cons d cs ih =>
    show ((t : Int)) :: Hx.sumsF (t + d) (cs ++ [c]) = _
    rw [ih (t + d)]
    show _ = ((t : Int)) :: (Hx.sumsF (t + d) cs ++ _)
    rw [List.sum_cons, Nat.add_assoc t d]
theorem Hx.sumsF_len (t : Nat) (cs : List Nat) : (Hx.sumsF t cs).length = cs.length + 1 := by
  induction cs generalizing t with
  | nil => rfl
  | cons d cs ih => show _ + 1 = _; rw [ih]; rfl
theorem Hx.sumsF_last (t : Nat) (cs : List Nat) : (Hx.sumsF t cs)[cs.length]? = some ((t + cs.sum : Nat) : Int) := by
  induction cs generalizing t with
  | nil => simp [Hx.sumsF]
  | cons d cs ih =>
    show (((t : Int)) :: Hx.sumsF (t + d) cs)[cs.length + 1]? = _
    rw [List.getElem?_cons_succ, ih, List.sum_cons, Nat.add_assoc]
theorem own_drew {w : World} {base : Nat} {e : TypeId} {size : Nat} {v : Value} {n : Nat} {xs : List Value} (h : w.ownsRow base e size v n xs) : w.drew.ownsRow base e size v n xs := h.kept (grown_drewN w 1 none) (by cases v.ownBlock <;> simp)
theorem sum_take_le (l : List Nat) (k : Nat) : (l.take k).sum ≤ l.sum := by
  induction l generalizing k with
  | nil => simp
  | cons a l ih =>
    cases k with
    | zero => simp
    | succ k => simp only [List.take_succ_cons, List.sum_cons]; have := ih k; omega

set_option maxRecDepth 100000 in
set_option maxHeartbeats 4000000 in
theorem looks_any (clock : List Nat) (cv : Value) (w : World) (hc : w.ownsRow 0 3 1 cv clock.length (ints (nats clock))) (hl : clock.length ≤ 1000) (hs : clock.sum ≤ 1000000) :
    Calls Tryz.prog 36 #[cv] w fun e w' => ∃ v, e = .returned v ∧ w'.ownsRow w.heap.size 3 1 v (clock.length + 1) (ints (Hx.lookL clock)) ∧ Below w.heap.size w w' := by
  obtain ⟨i0, hi, hz0, hz1, hz2⟩ := info_parts Tryz.info3
  have HI := hide hi
  have HZ0 := hide hz0
  have HZ1 := hide hz1
  have HZ2 := hide hz2
  obtain ⟨ac, capc, rfl⟩ := own_form hc
  have HC := hide hc
  have HSUM := hide hs
  clear hi hz0 hz1 hz2 hc hs
  have hown0 := World.ownsRow_lit (base := w.heap.size) (e := 3) (size := 1) w #[Value.int IntKind.i64 0] 1 (Nat.le_refl _) (by unfold maxLen; omega) rfl
  have HOWN0 := hide hown0
  clear hown0
  go_enter Tryz.func36, Tryz.ntmps36
  go_wp2_with fail
  go_loopg [3, 4] clock.length (fun gk v ii wr => ∃ k : Nat, k ≤ clock.length ∧ gk = clock.length - k ∧ ii = .int .i64 (k : Int) ∧ wr.ownsRow w.heap.size 3 1 v (k + 1) (ints (Hx.sumsF 0 (clock.take k))) ∧ Below w.heap.size w wr)
  case atStart => exact ⟨0, Nat.zero_le _, rfl, rfl, by rw [List.take_zero]; exact unhide HOWN0, (Below.refl _ _).alloc (Nat.le_refl _) _⟩
  case round =>
    clear HOWN0
    obtain ⟨k, hk, rfl, rfl, hown, hbe⟩ := hrel
    obtain ⟨gv, capv, ev, hgv1, hgv2⟩ := own_pos hown (by omega)
    subst ev
    have HOWN := hide hown
    have HBE := hide hbe
    have hbs := hbe.size
    by_cases hlt : k < clock.length
    · obtain ⟨c, hcc⟩ : ∃ c, clock[k]? = some c := ⟨_, List.getElem?_eq_getElem hlt⟩
      obtain ⟨gc, capc2, ec, _, hgc⟩ := own_pos (unhide HC) (by omega)
      cases ec
      have htk : (clock.take k).length = k := by rw [List.length_take]; omega
      obtain ⟨t, ht⟩ : ∃ t, t = (clock.take k).sum := ⟨_, rfl⟩
      have cv1 : wr.cell? ⟨gv, k, none⟩ = some (.int .i64 (t : Int)) := by
        rw [hown.cellAt k (by omega)]
        refine ints_at _ _ _ ?_
        have := Hx.sumsF_last 0 (clock.take k)
        rw [htk, Nat.zero_add, ← ht] at this
        exact this
      have cc1 : wr.cell? ⟨gc, k, none⟩ = some (.int .i64 (c : Int)) := by
        have : w.cell? ⟨gc, k, none⟩ = some (.int .i64 (c : Int)) := by
          rw [(unhide HC).cellAt k (by omega)]
          exact ints_at _ _ _ (nats_at _ _ _ hcc)
        rw [hbe.cell (World.block_lt_of_cell? w _ this)]; exact this
      have htake : clock.take (k + 1) = clock.take k ++ [c] := by rw [List.take_add_one, hcc]; rfl
      have hsle : t + c ≤ 1000000 := by
        have h1 := sum_take_le clock (k + 1)
        rw [htake, List.sum_append, ← ht] at h1
        have := unhide HSUM
        simp at h1
        omega
      have HNEW : Hid (ints (Hx.sumsF 0 (clock.take (k + 1))) = ints (Hx.sumsF 0 (clock.take k)) ++ [.int .i64 ((t : Int) + (c : Int))]) := by
        show _ = _
        rw [htake, Hx.sumsF_snoc, ints_snoc, ← ht, Nat.zero_add, Int.natCast_add]
      have hltI : (k : Int) < (clock.length : Int) := by omega
      have hkI : (k : Int) < (k : Int) + 1 := by omega
      have hk0 : (0 : Int) ≤ (k : Int) := by omega
      have hwr : IntKind.i64.wrap ((t : Int) + (c : Int)) = (t : Int) + (c : Int) := IntWalk.i64_in _ ⟨by omega, by omega⟩
      clear hown hbe hcc ht htake htk
      go_upto_region 5 with fail
      go_region_law (refine step_append_own rfl (.tmp 12) (.tmp 22) 64 rfl w.heap.size 3 i0 (.int .i64 0) 1 8 Tryz.underlying64 (unhide HI) (unhide HZ0) (unhide HZ1) (unhide HZ2) rfl (by decide) (.slice (some ⟨gv, 0, none⟩) (k + 1) capv) (k + 1) (ints (Hx.sumsF 0 (clock.take k))) (by simp [Act.eval]) (own_drew ((unhide HOWN).alloc _)) ⟨wr.heap.size, 0, none⟩ 1 1 [.int .i64 ((t : Int) + (c : Int))] (by simp [Act.eval]) rfl (news_new wr [.int .i64 ((t : Int) + (c : Int))] 3) (by intro u hu; rw [List.mem_singleton.1 hu]; rfl) (by unfold maxLen; omega) (by omega) (by simp; omega) ?_; intro v' w3 hown' hgrow'; have O3 := hide hown'; have G3 := hide hgrow'; clear hown' hgrow')
      all_goals
        go_wp2_with fail
        go_roundg (clock.length - (k + 1))
        case measure => omega
        case rel =>
          refine ⟨k + 1, by omega, rfl, by go_num, by rw [unhide HNEW]; exact unhide O3, ?_⟩
          · exact (((unhide HBE).alloc (unhide HBE).size _).drew).grown (unhide G3) (by have h9 : wr.heap.size ≤ ((wr.alloc (.cells #[.int .i64 ((t : Int) + (c : Int))] 3)).drew).heap.size := (((Below.refl wr.heap.size wr).alloc (Nat.le_refl _) (.cells #[.int .i64 ((t : Int) + (c : Int))] 3)).drew).size; omega) (fun k2 e => ((unhide HOWN).lt k2 e).1)
    · have hke : k = clock.length := by omega
      subst hke
      rw [List.take_length] at HOWN
      have hltI : ¬ (clock.length : Int) < (clock.length : Int) := by omega
      clear hown hbe
      go_wp2_with fail
      go_returns
      exact ⟨_, rfl, unhide HOWN, unhide HBE⟩

end Go.Proofs.YtppcnlkhdgmaiaaGreatDoor
