/- What the document's list of orders does: Orders answers the least orders that begin with a list, at most so many. -/
import Derived.Test.YtppcnlkhdgmaiaaGreatDoorRgC
namespace Go.Proofs.YtppcnlkhdgmaiaaGreatDoor
open Go.RowKit

namespace Hx
/-- All orders that begin with a list, the least first (d: how many steps are left). -/
def allO (K : Nat) (L : List Lst) : Nat → List Nat → List (List Nat)
  | 0, l => [l]
  | d + 1, l => (List.range L.length).flatMap fun i => if fitsF K L (l ++ [i]) 0 (fun _ => 0) then allO K L d (l ++ [i]) else []
/-- What one place adds. -/
def branch (K : Nat) (L : List Lst) (d : Nat) (l : List Nat) (i : Nat) : List (List Nat) := if fitsF K L (l ++ [i]) 0 (fun _ => 0) then allO K L d (l ++ [i]) else []
theorem allO_succ (K : Nat) (L : List Lst) (d : Nat) (l : List Nat) : allO K L (d + 1) l = (List.range L.length).flatMap (branch K L d l) := rfl
theorem range_flat {α : Type} (f : Nat → List α) (i : Nat) : (List.range (i + 1)).flatMap f = (List.range i).flatMap f ++ f i := by
  rw [List.range_succ, List.flatMap_append]; simp
theorem take_join {α : Type} (A B : List α) (m : Nat) : A.take m ++ B.take (m - (A.take m).length) = (A ++ B).take m := by
  rw [List.take_append, List.length_take]
  congr 1
  by_cases h : m ≤ A.length
  · rw [Nat.min_eq_left h, show m - A.length = 0 by omega, Nat.sub_self]
  · rw [Nat.min_eq_right (by omega)]
theorem take_full {α : Type} (A B : List α) (m : Nat) (h : m ≤ (A.take m).length) : (A ++ B).take m = A.take m := by
  rw [List.length_take] at h
  rw [List.take_append_of_le_length (by omega)]
theorem range_more {α : Type} (f : Nat → List α) (i n : Nat) (h : i ≤ n) : ∃ B, (List.range n).flatMap f = (List.range i).flatMap f ++ B := by
  obtain ⟨d, rfl⟩ : ∃ d, n = i + d := ⟨n - i, by omega⟩
  induction d with
  | zero => exact ⟨[], by simp⟩
  | succ d ih =>
    obtain ⟨B, hB⟩ := ih (by omega)
    exact ⟨B ++ f (i + d), by rw [show i + (d + 1) = (i + d) + 1 by omega, range_flat, hB, List.append_assoc]⟩
end Hx

theorem own_below {w w' : World} {base : Nat} {e : TypeId} {size : Nat} {v : Value} {n : Nat} {xs : List Value} (h : w.ownsRow base e size v n xs) (hb : Below w.heap.size w w') : w'.ownsRow base e size v n xs := by
  refine h.kept (row := none) ⟨hb.os, hb.tape, hb.output, hb.size, fun k hk _ => hb.block k hk⟩ ?_
  cases v.ownBlock
  · exact Or.inl rfl
  · exact Or.inr (by simp)
theorem Stps.below {w w' : World} {sv : Value} {L : List Hx.Lst} (h : Stps w sv L) (hb : Below w.heap.size w w') : Stps w' sv L := ⟨own_below h.ow hb, h.pl, h.pos, h.le⟩

/-- A list of orders, as a slice of slices of numbers. -/
def Ords (w : World) (base : Nat) (v : Value) (os : List (List Nat)) : Prop :=
  ∃ vs : List Value, w.ownsRow base 64 1 v os.length vs ∧ ∀ (i : Nat) (o : List Nat), os[i]? = some o → ∃ u, vs[i]? = some u ∧ w.ownsRow 0 3 1 u o.length (ints (nats o))
theorem Ords.nil (w : World) (base : Nat) : Ords w base (.slice none 0 0) [] := ⟨[], World.ownsRow_nil _ _ _ _, by simp⟩
theorem Ords.below {w w' : World} {base : Nat} {v : Value} {os : List (List Nat)} (h : Ords w base v os) (hb : Below w.heap.size w w') : Ords w' base v os := by
  obtain ⟨vs, h1, h2⟩ := h
  refine ⟨vs, own_below h1 hb, fun i o ho => ?_⟩
  obtain ⟨u, e1, e2⟩ := h2 i o ho
  exact ⟨u, e1, own_below e2 hb⟩
theorem Ords.form {w : World} {base : Nat} {v : Value} {os : List (List Nat)} (h : Ords w base v os) : ∃ ao cap, v = .slice ao os.length cap := by
  obtain ⟨vs, h1, _⟩ := h
  exact own_form h1
theorem Ords.snoc {w w' : World} {base : Nat} {v v' u : Value} {os : List (List Nat)} {o : List Nat} {vs : List Value} (h : w.ownsRow base 64 1 v os.length vs)
    (h2 : ∀ (i : Nat) (o : List Nat), os[i]? = some o → ∃ u, vs[i]? = some u ∧ w.ownsRow 0 3 1 u o.length (ints (nats o))) (hu : w.ownsRow 0 3 1 u o.length (ints (nats o)))
    (hv' : w'.ownsRow base 64 1 v' (os.length + 1) (vs ++ [u])) (hg : w.grownBy w' v.ownBlock) : Ords w' base v' (os ++ [o]) := by
  have hlen : vs.length = os.length := by simpa using h.1
  refine ⟨vs ++ [u], by simpa using hv', fun i q hq => ?_⟩
  by_cases hi : i < os.length
  · rw [List.getElem?_append_left hi] at hq
    obtain ⟨x, e1, e2⟩ := h2 i q hq
    exact ⟨x, by rw [List.getElem?_append_left (by omega)]; exact e1, e2.kept hg (own_apart e2 h (by decide))⟩
  · rw [List.getElem?_append_right (by omega)] at hq
    have hi2 : i = os.length := by
      by_cases e : i - os.length = 0
      · omega
      · obtain ⟨k, hk⟩ := Nat.exists_eq_succ_of_ne_zero e
        rw [hk] at hq; simp at hq
    subst hi2
    simp at hq
    subst hq
    exact ⟨u, by rw [List.getElem?_append_right (by omega)]; simp [hlen], hu.kept hg (own_apart hu h (by decide))⟩

theorem Tryz.info64 : (Tryz.prog.info? 64).map (fun i => (i.zero, i.size, i.bytes)) = some (some (.slice none 0 0), 1, 24) := by kernel_rfl

/-- What Orders does, with d steps left. -/
def OrdersSaid (J K D : Nat) (pl : Int) (sv : Value) (L : List Hx.Lst) (d : Nat) : Prop :=
  ∀ (lv : Value) (l : List Nat) (most : Nat) (mi : Int) (w : World), Stps w sv L → w.ownsRow 0 3 1 lv l.length (ints (nats l)) → l.length + d = L.length → (∀ i ∈ l, i < L.length) → 1 ≤ most → most ≤ 1001 → mi = (most : Int) →
    Calls Tryz.prog 25 #[.agg #[.int .i64 (J : Int), .int .i64 (K : Int), .int .i64 (D : Int), sv, .int .i64 pl], lv, .int .i64 mi] w fun e w' => ∃ v, e = .returned v ∧ Ords w' w.heap.size v ((Hx.allO K L d l).take most) ∧ Below w.heap.size w w'

set_option maxRecDepth 100000 in
set_option maxHeartbeats 4000000 in
theorem orders_full (J K D : Nat) (pl : Int) (sv : Value) (L : List Hx.Lst) : OrdersSaid J K D pl sv L 0 := by
  intro lv l most mi w hS hl hlen _ hm1 hm2 hmi
  obtain ⟨g, cap, rfl, _, hg⟩ := own_pos hS.ow hS.pos
  obtain ⟨ao, capl, rfl⟩ := own_form hl
  have HL := hide hl
  have hLl := hS.le
  clear hS hl
  obtain ⟨i0, hi, hz0, hz1, hz2⟩ := info_parts Tryz.info64
  have HI := hide hi
  have HZ0 := hide hz0
  have HZ1 := hide hz1
  have HZ2 := hide hz2
  have heq : ((l.length : Int) == (L.length : Int)) = true := by simp; omega
  have hfin : Hid ((Hx.allO K L 0 l).take most = [l]) := by
    show _ = _
    obtain ⟨m, rfl⟩ : ∃ m, most = m + 1 := ⟨most - 1, by omega⟩
    simp [Hx.allO]
  clear hi hz0 hz1 hz2 hmi hlen
  go_enter Tryz.func25, Tryz.ntmps25
  go_wp2_with (at_builtin; refine wpList_append_own _ rfl _ _ 71 rfl w.heap.size 64 i0 (.slice none 0 0) 1 24 Tryz.underlying71 (unhide HI) (unhide HZ0) (unhide HZ1) (unhide HZ2) rfl (by decide) _ _ _ rfl (World.ownsRow_nil _ _ _ _) ⟨w.heap.size + 1, 0, none⟩ 1 1 [.slice ao l.length capl] rfl rfl ?c1 (by simp [Value.oneCell']) (by unfold maxLen; omega) (by omega) (by simp; omega) ?_)
  case c1 =>
    have h := one_news (w.alloc (.cells #[.int .i64 (J : Int), .int .i64 (K : Int), .int .i64 (D : Int), .slice (some ⟨g, 0, none⟩) L.length cap, .int .i64 pl] 49)) (.slice ao l.length capl) 64
    rw [size_alloc_] at h
    exact h
  · intro v' w1 hown' hgrow' _
    have HO := hide hown'
    have HG := hide hgrow'
    clear hown' hgrow'
    go_wp2_with fail
    go_returns
    have hbe := ((Below.refl w.heap.size w).alloc (Nat.le_refl _) (.cells #[.int .i64 (J : Int), .int .i64 (K : Int), .int .i64 (D : Int), .slice (some ⟨g, 0, none⟩) L.length cap, .int .i64 pl] 49)).alloc (by simp) (.cells #[.slice ao l.length capl] 64)
    refine ⟨v', rfl, ?_, hbe.grown (unhide HG) (by simp; omega) (fun k e => by cases e)⟩
    rw [unhide hfin]
    exact Ords.snoc (os := []) (vs := []) (World.ownsRow_nil _ _ _ _) (by simp) (own_below (unhide HL) hbe) (unhide HO) (unhide HG)

theorem own_not_box {w : World} {base : Nat} {e T : TypeId} {size : Nat} {v : Value} {n b : Nat} {xs : List Value} {a : Array Value} {fr : Nat × Nat} (h : w.ownsRow base e size v n xs) (hb : w.heap[b]? = some (.cells a T fr)) (hne : e ≠ T) : v.ownBlock ≠ some b := by
  rcases h.2 with ⟨rfl, _⟩ | ⟨g, cap, cur, rfl, _, h4, _⟩
  · intro e; cases e
  · intro e
    have : g = b := by simpa [Value.ownBlock] using e
    subst this
    rw [h4] at hb
    simp at hb
    exact hne hb.2.1
theorem Below.box {w wr w' : World} {o : Obj} (h : wr.heap[w.heap.size]? = some o) (hb : Below wr.heap.size wr w') : w'.heap[w.heap.size]? = some o := (hb.block _ (lt_of_block h)).trans h

set_option maxRecDepth 100000 in
set_option maxHeartbeats 8000000 in
theorem orders_more (J K D : Nat) (pl : Int) (sv : Value) (L : List Hx.Lst) (d : Nat) (ih : OrdersSaid J K D pl sv L d) : OrdersSaid J K D pl sv L (d + 1) := by
  intro lv l most mi w hS hl hlen hin hm1 hm2 hmi
  subst hmi
  have IH := hide ih
  clear ih
  obtain ⟨g, cap, rfl, _, hg⟩ := own_pos hS.ow hS.pos
  obtain ⟨ao, capl, rfl⟩ := own_form hl
  have HL := hide hl
  have HS := hide hS
  have HIN := hide hin
  have hLl := hS.le
  clear hS hl hin
  obtain ⟨i0, hi, hz0, hz1, hz2⟩ := info_parts Tryz.info64
  have HI := hide hi
  have HZ0 := hide hz0
  have HZ1 := hide hz1
  have HZ2 := hide hz2
  have heq : ((l.length : Int) == (L.length : Int)) = false := by simp; omega
  clear hi hz0 hz1 hz2
  go_enter Tryz.func25, Tryz.ntmps25
  go_wp2_with fail
  go_loopg [7, 8] L.length (fun gk out i wr => ∃ (j : Nat) (os : List (List Nat)), j ≤ L.length ∧ gk = L.length - j ∧ i = .int .i64 (j : Int) ∧ os = ((List.range j).flatMap (Hx.branch K L d l)).take most ∧ Ords wr w.heap.size out os ∧ Below w.heap.size w wr ∧ wr.heap[w.heap.size]? = some (.cells #[.int .i64 (J : Int), .int .i64 (K : Int), .int .i64 (D : Int), .slice (some ⟨g, 0, none⟩) L.length cap, .int .i64 pl] 49 (0, 0)))
  case atStart => exact ⟨0, [], Nat.zero_le _, rfl, rfl, by simp, Ords.nil _ _, (Below.refl _ _).alloc (Nat.le_refl _) _, blk_new _ _ _⟩
  case round =>
    obtain ⟨j, os, hj, rfl, rfl, hos, hords, hbe, hbox⟩ := hrel
    obtain ⟨ao7, cap7, rfl⟩ := hords.form
    have hosl : os.length ≤ most := by rw [hos, List.length_take]; omega
    have HOS := hide hos
    have HORDS := hide hords
    have HBE := hide hbe
    have HBOX := hide hbox
    have p3 : wr.cell? ⟨w.heap.size, 3, none⟩ = some (.slice (some ⟨g, 0, none⟩) L.length cap) := blk_cell hbox 3
    clear hos hords hbe hbox
    by_cases hjl : j < L.length
    · by_cases hmo : os.length < most
      · have hjI : (j : Int) < (L.length : Int) := by omega
        have hmI : (os.length : Int) < (most : Int) := by omega
        have hll2 : (nats l).length ≤ 1000 := by rw [nats_len]; omega
        go_wp2_with fail
        have HLr : Hid (wr.ownsRow 0 3 1 (.slice ao l.length capl) (nats l).length (ints (nats l))) := by
          show World.ownsRow _ _ _ _ _ _ _
          rw [nats_len]; exact own_below (unhide HL) (unhide HBE)
        refine (with_own (nats l) _ _ _ (unhide HLr) hll2).mono ?_
        rintro e w1 ⟨mv, rfl, hmv, hb1⟩
        have HMV : Hid (w1.ownsRow 0 3 1 mv (l ++ [j]).length (ints (nats (l ++ [j])))) := by
          show World.ownsRow _ _ _ _ _ _ _
          have e1 : (l ++ [j]).length = (nats l).length + 1 := by rw [List.length_append, nats_len]; rfl
          have e2 : nats (l ++ [j]) = nats l ++ [(j : Int)] := by simp [nats]
          rw [e1, e2]; exact own_mono hmv (Nat.zero_le _)
        have HB1 := hide hb1
        have HBE1 := hide ((unhide HBE).trans (hb1.mono (unhide HBE).size))
        have HBOX1 := hide (Below.box (unhide HBOX) hb1)
        have HIN1 : Hid (∀ i ∈ l ++ [j], i < L.length) := fun i hi => by
          rcases List.mem_append.1 hi with h | h
          · exact unhide HIN i h
          · rw [List.mem_singleton.1 h]; exact hjl
        obtain ⟨aom, capm, rfl⟩ := own_form hmv
        clear hmv hb1 HLr p3
        have q0 : w1.cell? ⟨w.heap.size, 0, none⟩ = some (.int .i64 (J : Int)) := blk_cell (unhide HBOX1) 0
        have q1 : w1.cell? ⟨w.heap.size, 1, none⟩ = some (.int .i64 (K : Int)) := blk_cell (unhide HBOX1) 1
        have q2 : w1.cell? ⟨w.heap.size, 2, none⟩ = some (.int .i64 (D : Int)) := blk_cell (unhide HBOX1) 2
        have q3 : w1.cell? ⟨w.heap.size, 3, none⟩ = some (.slice (some ⟨g, 0, none⟩) L.length cap) := blk_cell (unhide HBOX1) 3
        have q4 : w1.cell? ⟨w.heap.size, 4, none⟩ = some (.int .i64 pl) := blk_cell (unhide HBOX1) 4
        go_wp2_with fail
        refine (fits_any J K D pl _ _ L (l ++ [j]) _ ((unhide HS).below (unhide HBE1)) (unhide HMV) (by rw [List.length_append]; show l.length + 1 ≤ 1000; omega) (unhide HIN1)).mono ?_
        rintro e w2 ⟨rfl, hb2⟩
        have HBE2 := hide ((unhide HBE1).trans (hb2.mono (unhide HBE1).size))
        have HBOX2 := hide (Below.box (unhide HBOX1) hb2)
        have HMV2 := hide (own_below (unhide HMV) hb2)
        have HO2 := hide (((unhide HORDS).below (unhide HB1)).below hb2)
        clear hb2 HBE1 HBOX1 HMV HB1 HORDS HBE HBOX q0 q1 q2 q3 q4
        cases hf : Hx.fitsF K L (l ++ [j]) 0 (fun _ => 0)
        · have HOS2 : Hid (os = ((List.range (j + 1)).flatMap (Hx.branch K L d l)).take most) := by
            show _ = _
            rw [Hx.range_flat, Hx.branch, hf]
            simpa using unhide HOS
          clear hf
          go_wp2_with fail
          go_roundg (L.length - (j + 1))
          case measure => omega
          case rel => exact ⟨j + 1, os, by omega, rfl, by go_num, unhide HOS2, unhide HO2, unhide HBE2, unhide HBOX2⟩
        · have HF := hide hf
          clear hf
          have q0 : w2.cell? ⟨w.heap.size, 0, none⟩ = some (.int .i64 (J : Int)) := blk_cell (unhide HBOX2) 0
          have q1 : w2.cell? ⟨w.heap.size, 1, none⟩ = some (.int .i64 (K : Int)) := blk_cell (unhide HBOX2) 1
          have q2 : w2.cell? ⟨w.heap.size, 2, none⟩ = some (.int .i64 (D : Int)) := blk_cell (unhide HBOX2) 2
          have q3 : w2.cell? ⟨w.heap.size, 3, none⟩ = some (.slice (some ⟨g, 0, none⟩) L.length cap) := blk_cell (unhide HBOX2) 3
          have q4 : w2.cell? ⟨w.heap.size, 4, none⟩ = some (.int .i64 pl) := blk_cell (unhide HBOX2) 4
          go_wp2_with fail
          refine (unhide IH _ (l ++ [j]) (most - os.length) _ _ ((unhide HS).below (unhide HBE2)) (unhide HMV2) (by rw [List.length_append]; show l.length + 1 + d = L.length; omega) (unhide HIN1) (by omega) (by omega) (by omega)).mono ?_
          rintro e w3 ⟨mo, rfl, hmo3, hb3⟩
          obtain ⟨ms, hms⟩ : ∃ ms, ms = (Hx.allO K L d (l ++ [j])).take (most - os.length) := ⟨_, rfl⟩
          rw [← hms] at hmo3
          obtain ⟨aom3, capm3, rfl⟩ := hmo3.form
          have hmsl : ms.length + os.length ≤ most := by rw [hms, List.length_take]; omega
          have HMS : Hid (os ++ ms = ((List.range (j + 1)).flatMap (Hx.branch K L d l)).take most) := by
            show _ = _
            have hbr : Hx.branch K L d l j = Hx.allO K L d (l ++ [j]) := by rw [Hx.branch, unhide HF]; rfl
            have hj2 := Hx.take_join ((List.range j).flatMap (Hx.branch K L d l)) (Hx.allO K L d (l ++ [j])) most
            rw [Hx.range_flat, hbr, ← hj2, ← unhide HOS, ← hms]
          have HMO3 := hide hmo3
          have HBE3 := hide ((unhide HBE2).trans (hb3.mono (unhide HBE2).size))
          have HBOX3 := hide (Below.box (unhide HBOX2) hb3)
          have HO3 := hide ((unhide HO2).below hb3)
          have HAP : Hid (∀ k, (Value.slice ao7 os.length cap7).ownBlock = some k → (Value.slice aom3 ms.length capm3).ownBlock ≠ some k) := fun k hk hk2 => by
            obtain ⟨vs, h1, _⟩ := unhide HO2
            obtain ⟨vs2, h2, _⟩ := hmo3
            have := (h1.lt k hk).2
            have := (h2.lt k hk2).1
            omega
          clear hmo3 hb3 hms q0 q1 q2 q3 q4 HBE2 HBOX2 HO2 HMV2
          go_wp2_with fail
          go_loopg [7, 12] ms.length (fun gk out k wr => ∃ (q : Nat) (ov : Value), q ≤ ms.length ∧ gk = ms.length - q ∧ k = .int .i64 (q : Int) ∧ out = ov ∧ Ords wr w.heap.size ov (os ++ ms.take q) ∧ Ords wr 0 (.slice aom3 ms.length capm3) ms ∧ (∀ k, ov.ownBlock = some k → (Value.slice aom3 ms.length capm3).ownBlock ≠ some k) ∧ Below w.heap.size w wr ∧ wr.heap[w.heap.size]? = some (.cells #[.int .i64 (J : Int), .int .i64 (K : Int), .int .i64 (D : Int), .slice (some ⟨g, 0, none⟩) L.length cap, .int .i64 pl] 49 (0, 0)))
          case atStart =>
            obtain ⟨vs2, h2, h3⟩ := unhide HMO3
            exact ⟨0, _, Nat.zero_le _, rfl, rfl, rfl, by simpa using unhide HO3, ⟨vs2, own_mono h2 (Nat.zero_le _), h3⟩, unhide HAP, unhide HBE3, unhide HBOX3⟩
          case round =>
            clear HMO3 HBE3 HBOX3 HO3 HAP
            obtain ⟨q, ov, hq, rfl, rfl, rfl, hov, hmo, hap, hbe, hbox⟩ := hrel
            obtain ⟨ao8, cap8, rfl⟩ := hov.form
            have HOV := hide hov
            have HMO := hide hmo
            have HAP := hide hap
            have HBE := hide hbe
            have HBOX := hide hbox
            clear hov hmo hap hbe hbox
            obtain ⟨T, hT⟩ : ∃ T, T = os ++ ms.take q := ⟨_, rfl⟩
            rw [← hT] at HOV HAP ⊢
            have hTl : T.length = os.length + q := by rw [hT, List.length_append, List.length_take]; omega
            have HT := hide hT
            clear hT
            by_cases hqm : q < ms.length
            · obtain ⟨vs2, hm1', hm2'⟩ := unhide HMO
              obtain ⟨gm, capm4, em, _, hgm⟩ := own_pos hm1' (by omega)
              cases em
              obtain ⟨o, ho⟩ : ∃ o, ms[q]? = some o := ⟨ms[q], List.getElem?_eq_getElem hqm⟩
              obtain ⟨u, hu1, hu2⟩ := hm2' q o ho
              obtain ⟨au, cu, rfl⟩ := own_form hu2
              have cq : wr.cell? ⟨gm, q, none⟩ = some (.slice au o.length cu) := by rw [hm1'.cellAt q (by omega)]; exact hu1
              have HT2 : Hid (os ++ ms.take (q + 1) = T ++ [o]) := by
                show _ = _
                rw [List.take_add_one, ho, unhide HT, List.append_assoc]; rfl
              have HU2 := hide hu2
              have HM1 := hide hm1'
              have HM2 := hide hm2'
              obtain ⟨vsT, hvT, hvT2⟩ := unhide HOV
              have HVT := hide hvT
              have HVT2 := hide hvT2
              have hszw := (unhide HBE).size
              clear hu1 hu2 hm1' hm2' hvT hvT2 ho
              go_wp2_with (at_builtin; refine wpList_append_own2 _ rfl _ _ 71 rfl w.heap.size 64 i0 (.slice none 0 0) 1 24 Tryz.underlying71 (unhide HI) (unhide HZ0) (unhide HZ1) (unhide HZ2) rfl (by decide) _ _ _ rfl ((unhide HVT).alloc _) ⟨wr.heap.size, 0, none⟩ 1 1 [.slice au o.length cu] rfl rfl (one_news wr (.slice au o.length cu) 64) (by simp [Value.oneCell']) (by unfold maxLen; omega) (by omega) (by simp; omega) ?_; intro v' w4 hown' hgrow' hv'; have HO4 := hide hown'; have HG4 := hide hgrow'; have HV4 := hide hv'; clear hown' hgrow' hv')
              go_roundg (ms.length - (q + 1))
              case measure => omega
              case rel =>
                have hga := grown_alloc wr (.cells #[.slice au o.length cu] 64) none
                have hne : (Value.slice (some ⟨gm, 0, none⟩) ms.length capm3).ownBlock ≠ (Value.slice ao8 T.length cap8).ownBlock := fun e => unhide HAP gm e.symm rfl
                refine ⟨q + 1, v', by omega, rfl, by go_num, rfl, ?_, ⟨vs2, ((unhide HM1).alloc _).kept (unhide HG4) (Or.inr hne), fun i p hp => ?_⟩, fun k hk => ?_, ((unhide HBE).alloc hszw _).grown (unhide HG4) (by simp; omega) (fun k e => ((unhide HVT).lt k e).1), ?_⟩
                · rw [unhide HT2]
                  refine Ords.snoc ((unhide HVT).alloc _) (fun i p hp => ?_) ((unhide HU2).alloc _) (unhide HO4) (unhide HG4)
                  obtain ⟨x, e1, e2⟩ := unhide HVT2 i p hp
                  exact ⟨x, e1, e2.alloc _⟩
                · obtain ⟨x, e1, e2⟩ := unhide HM2 i p hp
                  exact ⟨x, e1, (e2.alloc _).kept (unhide HG4) (own_apart e2 (unhide HVT) (by decide))⟩
                · rcases unhide HV4 k hk with h | h
                  · exact unhide HAP k h
                  · intro e
                    have e' : gm = k := by simpa [Value.ownBlock] using e
                    have h2 : wr.heap.size + 1 ≤ k := by simpa using h
                    omega
                · refine blk_kept (blk_kept (unhide HBOX) hga (by simp)) (unhide HG4) (fun e => own_not_box (unhide HVT) (unhide HBOX) (by decide) e.symm)
            · have hqe : q = ms.length := by omega
              have HOS2 : Hid (T = ((List.range (j + 1)).flatMap (Hx.branch K L d l)).take most) := by
                show _ = _
                rw [unhide HT, hqe, List.take_length]; exact unhide HMS
              clear hqe
              go_wp2_with fail
              go_roundg (L.length - (j + 1))
              case measure => omega
              case rel => exact ⟨j + 1, T, by omega, rfl, by go_num, unhide HOS2, unhide HOV, unhide HBE, unhide HBOX⟩
      · have hjI : (j : Int) < (L.length : Int) := by omega
        have hmI : decide ((os.length : Int) < (most : Int)) = false := by simp; omega
        have hfin : Hid ((Hx.allO K L (d + 1) l).take most = os) := by
          show _ = _
          obtain ⟨B, hB⟩ := Hx.range_more (Hx.branch K L d l) j L.length hj
          have h1 := unhide HOS
          rw [Hx.allO_succ, hB, Hx.take_full _ _ _ (by rw [← h1]; omega), h1]
        go_wp2_with fail
        go_returns
        exact ⟨_, rfl, by rw [unhide hfin]; exact unhide HORDS, unhide HBE⟩
    · have hje : j = L.length := by omega
      have hfin : Hid ((Hx.allO K L (d + 1) l).take most = os) := by show _ = _; rw [Hx.allO_succ, unhide HOS, hje]
      clear hje
      have hjI : decide ((j : Int) < (L.length : Int)) = false := by simp; omega
      go_wp2_with fail
      go_returns
      exact ⟨_, rfl, by rw [unhide hfin]; exact unhide HORDS, unhide HBE⟩

theorem orders_any (J K D : Nat) (pl : Int) (sv : Value) (L : List Hx.Lst) : ∀ d, OrdersSaid J K D pl sv L d
  | 0 => orders_full J K D pl sv L
  | d + 1 => orders_more J K D pl sv L d (orders_any J K D pl sv L d)

end Go.Proofs.YtppcnlkhdgmaiaaGreatDoor
