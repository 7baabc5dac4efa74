/- What a look does. -/
import Derived.Test.YtppcnlkhdgmaiaaDoorCRmC
import Derived.ScopeJumps
import Derived.WalkMore
namespace Go.Proofs.YtppcnlkhdgmaiaaDoor
open Go.RowKit

/-- The machine's numbers and its place hang together. -/
structure MOk (l : List Hx.TStp) (m : Hx.Ms) : Prop where
  work : m.work = true → m.k < l.length ∧ m.sts.length = m.k + 1
  free : m.work = false → m.k ≤ l.length ∧ m.sts.length = m.k
  time : m.time ≤ 1000000
  sts : ∀ p ∈ m.sts, p.1 ≤ 1000000
  rb : m.rb.length = 4
  rbs : ∀ r ∈ m.rb, 0 ≤ r ∧ r ≤ 2000000
theorem MOk.mn {l m} (h : MOk l m) (hl : l.length ≤ 401) : MN m := by
  refine ⟨h.time, h.sts, ?_, h.rb, h.rbs⟩
  cases hw : m.work
  · have := h.free hw; omega
  · have := h.work hw; omega
theorem mem_set {α : Type} {l : List α} {i : Nat} {v x : α} (h : x ∈ l.set i v) : x = v ∨ x ∈ l := by
  rcases List.mem_or_eq_of_mem_set h with h | h
  · exact Or.inr h
  · exact Or.inl h
theorem oneM_ok {l : List Hx.TStp} {J : Nat} {takes : List Nat} {m : Hx.Ms} (h : MOk l m) (hk : ∀ n ∈ takes, n < 1000) : MOk l (Hx.oneM l J takes m).2 := by
  unfold Hx.oneM
  cases hx : l[m.k]? with
  | none => exact h
  | some x =>
    have hkl : m.k < l.length := (List.getElem?_eq_some_iff.1 hx).1
    simp only
    split
    · rename_i hw
      obtain ⟨h1, h2⟩ := h.work hw
      have hb : Hx.beganM m ≤ 1000000 := by
        rw [Hx.beganM, List.getD_eq_getElem?_getD, List.getElem?_eq_getElem (by omega)]
        exact h.sts _ (List.getElem_mem _)
      have hsts : ∀ p ∈ m.sts.set m.k (Hx.beganM m, some (Hx.beganM m + takes.getD m.k 0)), p.1 ≤ 1000000 := fun p hp => by
        rcases mem_set hp with rfl | hp
        · exact hb
        · exact h.sts p hp
      split
      · rename_i hov
        have hkt : takes.getD m.k 0 < 1000 := by
          rw [List.getD_eq_getElem?_getD]
          cases ht : takes[m.k]? with
          | none => simp
          | some n => exact hk n (List.mem_of_getElem? ht)
        unfold Hx.finishM
        split
        · exact ⟨fun _ => ⟨h1, by simpa using h2⟩, (fun g => by rw [show m.work = true from hw] at g; cases g), h.time, hsts, h.rb, h.rbs⟩
        · split
          · exact ⟨fun _ => ⟨h1, by simpa using h2⟩, (fun g => by rw [show m.work = true from hw] at g; cases g), h.time, hsts, h.rb, h.rbs⟩
          · refine ⟨(fun g => by cases g), fun _ => ⟨hkl, by simpa using h2⟩, h.time, hsts, ?_, ?_⟩
            · simp only
              split
              · simp [h.rb]
              · exact h.rb
            · simp only
              split
              · intro r hr
                rcases mem_set hr with rfl | hr
                · omega
                · exact h.rbs r hr
              · exact h.rbs
      · split <;> exact h
    · rename_i hw
      have hw : m.work = false := by simpa using hw
      obtain ⟨h1, h2⟩ := h.free hw
      split
      · exact h
      · unfold Hx.beginM
        split
        · exact h
        · split
          · exact h
          · refine ⟨fun _ => ⟨hkl, by simp [h2]⟩, (fun g => by cases g), h.time, ?_, h.rb, h.rbs⟩
            intro p hp
            rcases List.mem_append.1 hp with hp | hp
            · exact h.sts p hp
            · rw [List.mem_singleton.1 hp]; exact h.time
theorem lookM_ok {l : List Hx.TStp} {J : Nat} {takes : List Nat} (hk : ∀ n ∈ takes, n < 1000) : ∀ (n : Nat) (m : Hx.Ms), Hx.muM l m = n → MOk l m → MOk l (Hx.lookM l J takes m).2 := by
  intro n
  induction n using Nat.strongRecOn with
  | ind n ih =>
    intro m hn h
    have h1 := oneM_ok (J := J) h hk
    cases ho : Hx.oneM l J takes m with
    | mk r m' =>
      rw [ho] at h1
      cases r with
      | none =>
        rw [Hx.lookM_none ho]
        exact ih _ (by have := Hx.oneM_mu ho; omega) m' rfl h1
      | some e => rw [Hx.lookM_some ho]; exact h1

theorem least_of {p : Nat → Prop} (h : ∃ n, p n) : ∃ n, p n ∧ ∀ m, p m → n ≤ m := by
  obtain ⟨n, hn⟩ := h
  induction n using Nat.strongRecOn with
  | ind n ih =>
    by_cases g : ∃ m, m < n ∧ p m
    · obtain ⟨m, hm, hp⟩ := g
      exact ih m hm hp
    · refine ⟨n, hn, fun m hm => ?_⟩
      rcases Nat.lt_or_ge m n with h | h
      · exact absurd ⟨m, h, hm⟩ g
      · exact h
open Classical in
/-- A scope in which the run jumps back to one label: what holds at every jump bears a number that every pass lowers. -/
theorem scope_jumpsg {P : Program} {a : Act} {w : World} {Q : Exit → Act → World → Prop} {c rest : Code} (l : Nat) (J : Nat → Act → World → Prop) (hf : findLabel c l = some rest)
    (first : c.wp P (Exit.jump l (fun a' w' => ∃ n, J n a' w') Q) a w)
    (pass : ∀ n a w, J n a w → rest.wp P (Exit.jump l (fun a' w' => ∃ n', n' < n ∧ J n' a' w') Q) a w) : (Code.scope c).wp P Q a w := by
  refine wp_scope_jumps l (fun a' w' => ∃ n, J n a' w') (fun a' w' => if h : ∃ n, J n a' w' then Classical.choose (least_of h) else 0) hf first ?_
  intro a w hJ
  have h1 := pass _ a w (Classical.choose_spec (least_of hJ)).1
  refine Code.wp_mono ?_ h1
  intro e a' w' he
  cases e with
  | goto l' =>
    obtain ⟨e1, n', hn, hj⟩ := he
    have hJ' : ∃ n, J n a' w' := ⟨n', hj⟩
    refine ⟨e1, hJ', ?_⟩
    rw [dif_pos hJ', dif_pos hJ]
    exact Nat.lt_of_le_of_lt ((Classical.choose_spec (least_of hJ')).2 n' hj) hn
  | _ => exact he

theorem Hx.over_iff' {takes : List Nat} {m : Hx.Ms} : Hx.overM takes m = true ↔ m.k < takes.length ∧ Hx.beganM m + takes.getD m.k 0 ≤ m.time := by simp [Hx.overM]
theorem beginM_ne {J : Nat} {x : Hx.TStp} {m m' : Hx.Ms} {e : Nat} (h : Hx.beginM J x m = (some e, m')) : e ≠ 0 := by
  unfold Hx.beginM at h
  split at h
  · cases h; decide
  · split at h
    · cases h; decide
    · cases h
theorem finishM_ne {tk : Nat} {x : Hx.TStp} {m m' : Hx.Ms} {e : Nat} (h : Hx.finishM x tk m = (some e, m')) : e ≠ 0 := by
  unfold Hx.finishM at h
  split at h
  · cases h; decide
  · split at h
    · cases h; decide
    · cases h
/-- What holds at the label. -/
def LkJ (h : Mh) (w0 : World) (m0 : Hx.Ms) (n : Nat) (a : Act) (w : World) : Prop := ∃ (m : Hx.Ms) (sv : Value), Hx.muM h.l m = n ∧ MOk h.l m ∧ Mem h w0 w m sv (stsCells m.sts) ∧ Hx.lookM h.l h.J h.takes m = Hx.lookM h.l h.J h.takes m0 ∧
  ∃ (u4 u5 u6 u7 u8 u9 u10 u11 u12 u13 u14 u15 u16 u17 u18 u19 u20 u21 u22 u23 u24 u25 u26 u27 u28 u29 u30 u31 u32 u33 u34 u35 u36 u37 u38 u39 u40 u41 u42 u43 u44 u45 u46 u47 u48 u49 u50 u51 u52 u53 u54 u55 u56 u57 u58 u59 u60 u61 u62 u63 u64 u65 u66 u67 u68 u69 u70 u71 u72 u73 u74 u75 u76 u77 u78 u79 u80 u81 u82 u83 u84 u85 u86 u87 u88 u89 u90 u91 u92 u93 : Value), a = { tmps := #[.pointer (some ⟨h.b, 0, none⟩), undef, .int .i64 0, .int .i64 0, u4, u5, u6, u7, u8, u9, u10, u11, u12, u13, u14, u15, u16, u17, u18, u19, u20, u21, u22, u23, u24, u25, u26, u27, u28, u29, u30, u31, u32, u33, u34, u35, u36, u37, u38, u39, u40, u41, u42, u43, u44, u45, u46, u47, u48, u49, u50, u51, u52, u53, u54, u55, u56, u57, u58, u59, u60, u61, u62, u63, u64, u65, u66, u67, u68, u69, u70, u71, u72, u73, u74, u75, u76, u77, u78, u79, u80, u81, u82, u83, u84, u85, u86, u87, u88, u89, u90, u91, u92, u93], defers := [] }

set_option maxRecDepth 100000 in
set_option maxHeartbeats 4000000 in
theorem mlook_any (h : Mh) (w0 w : World) (m : Hx.Ms) (sv : Value) (hs : Stat h w0) (hm : Mem h w0 w m sv (stsCells m.sts)) (ho : MOk h.l m) :
    Calls Tryd.prog 63 #[.pointer (some ⟨h.b, 0, none⟩)] w fun e w' => e = .returned (.int .i64 ((Hx.lookM h.l h.J h.takes m).1 : Int)) ∧ ∃ sv', Mem h w0 w' (Hx.lookM h.l h.J h.takes m).2 sv' (stsCells (Hx.lookM h.l h.J h.takes m).2.sts) := by
  have HS := hide hs
  have HM := hide hm
  have HO := hide ho
  clear hs hm ho
  obtain ⟨R, hR⟩ : ∃ R : Ending → World → Prop, R = fun e w' => e = .returned (.int .i64 ((Hx.lookM h.l h.J h.takes m).1 : Int)) ∧ ∃ sv', Mem h w0 w' (Hx.lookM h.l h.J h.takes m).2 sv' (stsCells (Hx.lookM h.l h.J h.takes m).2.sts) := ⟨_, rfl⟩
  have HR := hide hR
  rw [← hR]
  clear hR
  go_enter Tryd.func63, Tryd.ntmps63
  go_wp2_with fail
  obtain ⟨JJ, hJJ⟩ : ∃ JJ, JJ = LkJ h w0 m := ⟨_, rfl⟩
  have HJJ := hide hJJ
  refine scope_jumpsg 0 JJ rfl ?_ ?_
  · clear hJJ
    obtain ⟨m1, hm1⟩ : ∃ m1, m1 = m := ⟨_, rfl⟩
    have HMEM : Hid (Mem h w0 w m1 sv (stsCells m1.sts)) := by rw [hm1]; exact HM
    have HOK : Hid (MOk h.l m1) := by rw [hm1]; exact HO
    have HLK : Hid (Hx.lookM h.l h.J h.takes m1 = Hx.lookM h.l h.J h.takes m) := by show _ = _; rw [hm1]
    clear HM HO hm1
    go_wp2_with fail
    go_step3
    have c6 : w.cell? ⟨h.b, 6, none⟩ = some (.bool m1.work) := blk_cell (unhide HMEM).blk 6
    have c5 : w.cell? ⟨h.b, 5, none⟩ = some (.int .i64 (m1.k : Int)) := blk_cell (unhide HMEM).blk 5
    have c4 : w.cell? ⟨h.b, 4, none⟩ = some (.int .i64 (m1.time : Int)) := blk_cell (unhide HMEM).blk 4
    have c1 : w.cell? ⟨h.b, 1, none⟩ = some h.tv := blk_cell (unhide HMEM).blk 1
    have c7 : w.cell? ⟨h.b, 7, none⟩ = some sv := blk_cell (unhide HMEM).blk 7
    have hMN := (unhide HOK).mn (unhide HS).ll
    have HMN := hide hMN
    have htm := hMN.time
    have hll := (unhide HS).ll
    obtain ⟨atv, capt, etv⟩ := own_form ((unhide HMEM).t (unhide HS))
    clear hMN
    cases hx : h.l[m1.k]? with
    | none =>
      have hkl : h.l.length ≤ m1.k := List.getElem?_eq_none_iff.1 hx
      have hw : m1.work = false := by
        cases e : m1.work
        · rfl
        · have := ((unhide HOK).work e).1; omega
      have hke : m1.k = h.l.length := by have := ((unhide HOK).free hw).1; omega
      have HF : Hid (Hx.lookM h.l h.J h.takes m = (1, m1)) := by
        show _ = _
        rw [← unhide HLK]
        exact Hx.lookM_some (by simp [Hx.oneM, hx, hw])
      have hkeI : ((m1.k : Int) == (h.l.length : Int)) = true := by simp [hke]
      rw [hw] at c6
      rw [etv] at c1
      clear hx hkl hw hke etv
      go_wp2_with fail
      go_quiet (fail)
      go_wp2_with fail
      go_quiet (fail)
      go_wp2_with fail
      show R _ _
      rw [unhide HR, unhide HF]
      first | exact ⟨rfl, _, (unhide HMEM).drewN _⟩ | exact ⟨rfl, _, ((unhide HMEM).drewN _).drewN _⟩ | exact ⟨rfl, _, (((unhide HMEM).drewN _).drewN _).drewN _⟩
    | some x =>
      have hkl : m1.k < h.l.length := (List.getElem?_eq_some_iff.1 hx).1
      have hkI : (m1.k : Int) < (h.l.length : Int) := by omega
      have hxok := (unhide HS).ok x (List.mem_of_getElem? hx)
      have hxt := hxok.t
      have hxh := hxok.hi
      obtain ⟨gt, capt2, etv2, _, _⟩ := own_pos ((unhide HMEM).t (unhide HS)) (by omega)
      rw [etv2] at c1
      have hrow := (unhide HMEM).t (unhide HS)
      rw [etv2] at hrow
      obtain ⟨x0, x1, x2, x3, x4, x5, x6, x7, x8, x9, x10⟩ := pt_cells hrow rfl hx
      have HX := hide hx
      clear hx hrow etv etv2 hxok x0 x2 x3 x4 x5 x6 x7 x9 x10
      cases hw : m1.work
      · rw [hw] at c6
        have hkne : ((m1.k : Int) == (h.l.length : Int)) = false := by simp; omega
        have hslk := (unhide HOK).free hw
        by_cases ht : m1.time < x.t
        · have HF : Hid (Hx.lookM h.l h.J h.takes m = (0, m1)) := by
            show _ = _
            rw [← unhide HLK]
            exact Hx.lookM_some (by simp [Hx.oneM, unhide HX, hw, ht])
          have htI : (m1.time : Int) < (x.t : Int) := by omega
          clear ht hw hslk
          go_wp2_with fail
          go_quiet (fail)
          go_wp2_with fail
          go_quiet (fail)
          go_wp2_with fail
          go_quiet (fail)
          go_wp2_with fail
          show R _ _
          rw [unhide HR, unhide HF]
          first | exact ⟨rfl, _, (unhide HMEM).drewN _⟩ | exact ⟨rfl, _, ((unhide HMEM).drewN _).drewN _⟩ | exact ⟨rfl, _, (((unhide HMEM).drewN _).drewN _).drewN _⟩
        · have htI : ¬ (m1.time : Int) < (x.t : Int) := by omega
          have HONE : Hid (Hx.oneM h.l h.J h.takes m1 = Hx.beginM h.J x m1) := by show _ = _; simp [Hx.oneM, unhide HX, hw, ht]
          clear ht hw hslk
          obtain ⟨r, m2, hbm⟩ : ∃ r m2, Hx.beginM h.J x m1 = (r, m2) := ⟨_, _, rfl⟩
          have HENE : Hid (∀ e, r = some e → e ≠ 0) := fun e he => beginM_ne (m' := m2) (by rw [hbm, he])
          have HB : Hid (∀ w', Mem h w0 w' m1 sv (stsCells m1.sts) → Calls Tryd.prog 83 #[.pointer (some ⟨h.b, 0, none⟩)] w' fun e w' => e = .returned (.int .i64 ((r.getD 0 : Nat) : Int)) ∧ ∃ sv', Mem h w0 w' m2 sv' (stsCells m2.sts)) := fun w' hW' => by
            have := begin_any h w0 w' m1 sv x (unhide HS) hW' (unhide HX) (unhide HMN)
            rw [hbm] at this
            exact this
          have ho1 := unhide HONE
          rw [hbm] at ho1
          have HO1 := hide ho1
          have hok2 := oneM_ok (J := h.J) (unhide HOK) (unhide HS).kn
          rw [ho1] at hok2
          have HOK2 := hide hok2
          clear hbm ho1 hok2 HONE
          cases r with
          | none =>
            have HNX : Hid (Hx.lookM h.l h.J h.takes m2 = Hx.lookM h.l h.J h.takes m) := by
              show _ = _
              rw [← unhide HLK]
              exact (Hx.lookM_none (unhide HO1)).symm
            simp only [Option.getD_none] at HB
            go_wp2_with fail
            go_quiet (fail)
            go_wp2_with fail
            go_quiet (fail)
            go_wp2_with fail
            go_quiet (fail)
            go_wp2_with (go_at_call 83; refine (unhide HB _ ((unhide HMEM).drewN _)).mono ?_; rintro e w8 ⟨rfl, sv2, hm2⟩; have HM2 := hide hm2; clear hm2)
            go_step3
            refine ⟨rfl, _, (by rw [unhide HJJ]; exact ⟨m2, sv2, rfl, unhide HOK2, unhide HM2, unhide HNX, _, _, _, _, _, _, _, _, _, _, _, _, _, _, _, _, _, _, _, _, _, _, _, _, _, _, _, _, _, _, _, _, _, _, _, _, _, _, _, _, _, _, _, _, _, _, _, _, _, _, _, _, _, _, _, _, _, _, _, _, _, _, _, _, _, _, _, _, _, _, _, _, _, _, _, _, _, _, _, _, _, _, _, _, _, _, _, _, _, _, rfl⟩)⟩
          | some e =>
            have HF : Hid (Hx.lookM h.l h.J h.takes m = (e, m2)) := by
              show _ = _
              rw [← unhide HLK]
              exact Hx.lookM_some (unhide HO1)
            have hene : ((e : Int) == 0) = false := by
              have := unhide HENE e rfl
              simp; omega
            simp only [Option.getD_some] at HB
            go_wp2_with fail
            go_quiet (fail)
            go_wp2_with fail
            go_quiet (fail)
            go_wp2_with fail
            go_quiet (fail)
            go_wp2_with (go_at_call 83; refine (unhide HB _ ((unhide HMEM).drewN _)).mono ?_; rintro e w8 ⟨rfl, sv2, hm2⟩; have HM2 := hide hm2; clear hm2)
            show R _ _
            rw [unhide HR, unhide HF]
            exact ⟨rfl, _, unhide HM2⟩
      · rw [hw] at c6
        obtain ⟨hk1, hsl⟩ := (unhide HOK).work hw
        obtain ⟨g, capg, esv, hg1, hg2⟩ := own_pos (unhide HMEM).row (by omega)
        obtain ⟨p, hp⟩ : ∃ p, m1.sts[m1.k]? = some p := ⟨_, List.getElem?_eq_getElem (by omega)⟩
        have hbeg : Hx.beganM m1 = p.1 := by rw [Hx.beganM, List.getD_eq_getElem?_getD, hp]; rfl
        have hp1 := (unhide HMN).sts p (List.mem_of_getElem? hp)
        have hslen := (unhide HMN).len
        have hksI : (m1.k : Int) < (m1.sts.length : Int) := by omega
        have cg : w.cell? ⟨g, m1.k * 3, none⟩ = some (.int .i64 (p.1 : Int)) := by
          have hrow := (unhide HMEM).row
          rw [esv] at hrow
          rw [hrow.cellAt (m1.k * 3) (by omega)]
          have := stsCells_at m1.sts m1.k p hp 0 (by omega)
          rw [Nat.add_zero] at this
          rw [this]; rfl
        have HOV := hide (fun w' (hW' : Mem h w0 w' m1 sv (stsCells m1.sts)) => over_any h w0 w' m1 sv (unhide HS) hW' (show m1.k < m1.sts.length by omega) (unhide HMN))
        have HBEG := hide hbeg
        have HP := hide hp
        have HSL := hide hsl
        have HW := hide hw
        rw [esv] at c7
        clear hbeg hp hw hsl
        cases hov : Hx.overM h.takes m1
        · rw [hov] at HOV
          have HOVF := hide hov
          clear hov
          by_cases hlg : p.1 + x.hi < m1.time
          · have HF : Hid (Hx.lookM h.l h.J h.takes m = (3, m1)) := by
              show _ = _
              rw [← unhide HLK]
              exact Hx.lookM_some (by simp [Hx.oneM, unhide HX, unhide HW, unhide HOVF, unhide HBEG, hlg])
            have hlgI : (x.hi : Int) < (m1.time : Int) - (p.1 : Int) := by omega
            clear hlg
            go_wp2_with (go_at_call 81; refine (unhide HOV _ (unhide HMEM)).mono ?_; rintro e w9 ⟨rfl, n9, rfl⟩)
            go_quiet (fail)
            go_wp2_with fail
            show R _ _
            rw [unhide HR, unhide HF]
            first | exact ⟨rfl, _, (unhide HMEM).drewN _⟩ | exact ⟨rfl, _, ((unhide HMEM).drewN _).drewN _⟩ | exact ⟨rfl, _, (((unhide HMEM).drewN _).drewN _).drewN _⟩
          · have HF : Hid (Hx.lookM h.l h.J h.takes m = (0, m1)) := by
              show _ = _
              rw [← unhide HLK]
              exact Hx.lookM_some (by simp [Hx.oneM, unhide HX, unhide HW, unhide HOVF, unhide HBEG, hlg])
            have hlgI : ¬ (x.hi : Int) < (m1.time : Int) - (p.1 : Int) := by omega
            clear hlg
            go_wp2_with (go_at_call 81; refine (unhide HOV _ (unhide HMEM)).mono ?_; rintro e w9 ⟨rfl, n9, rfl⟩)
            go_quiet (fail)
            go_wp2_with fail
            show R _ _
            rw [unhide HR, unhide HF]
            first | exact ⟨rfl, _, (unhide HMEM).drewN _⟩ | exact ⟨rfl, _, ((unhide HMEM).drewN _).drewN _⟩ | exact ⟨rfl, _, (((unhide HMEM).drewN _).drewN _).drewN _⟩
        · rw [hov] at HOV
          obtain ⟨hkt, hle⟩ := Hx.over_iff'.1 hov
          obtain ⟨tk, htk⟩ : ∃ tk, h.takes[m1.k]? = some tk := ⟨_, List.getElem?_eq_getElem hkt⟩
          have htd : h.takes.getD m1.k 0 = tk := by rw [List.getD_eq_getElem?_getD, htk]; rfl
          have HONE : Hid (Hx.oneM h.l h.J h.takes m1 = Hx.finishM x tk m1) := by show _ = _; simp only [Hx.oneM, unhide HX, unhide HW, hov, htd, if_pos]
          obtain ⟨r, m2, hbm⟩ : ∃ r m2, Hx.finishM x tk m1 = (r, m2) := ⟨_, _, rfl⟩
          have HENE : Hid (∀ e, r = some e → e ≠ 0) := fun e he => finishM_ne (m' := m2) (by rw [hbm, he])
          have HB : Hid (∀ w', Mem h w0 w' m1 sv (stsCells m1.sts) → Calls Tryd.prog 82 #[.pointer (some ⟨h.b, 0, none⟩)] w' fun e w' => e = .returned (.int .i64 ((r.getD 0 : Nat) : Int)) ∧ ∃ sv', Mem h w0 w' m2 sv' (stsCells m2.sts)) := fun w' hW' => by
            have := finish_any h w0 w' m1 sv x tk p.1 p.2 (unhide HS) hW' (unhide HX) htk (unhide HP) (unhide HMN)
            rw [hbm] at this
            exact this
          have ho1 := unhide HONE
          rw [hbm] at ho1
          have HO1 := hide ho1
          have hok2 := oneM_ok (J := h.J) (unhide HOK) (unhide HS).kn
          rw [ho1] at hok2
          have HOK2 := hide hok2
          clear hbm ho1 hok2 HONE hov hkt hle htk htd
          cases r with
          | none =>
            have HNX : Hid (Hx.lookM h.l h.J h.takes m2 = Hx.lookM h.l h.J h.takes m) := by
              show _ = _
              rw [← unhide HLK]
              exact (Hx.lookM_none (unhide HO1)).symm
            simp only [Option.getD_none] at HB
            go_wp2_with (first | (go_at_call 81; refine (unhide HOV _ (unhide HMEM)).mono ?_; rintro e w9 ⟨rfl, n9, rfl⟩) | (go_at_call 82; refine (unhide HB _ ((unhide HMEM).drewN _)).mono ?_; rintro e w8 ⟨rfl, sv2, hm2⟩; have HM2 := hide hm2; clear hm2))
            go_step3
            refine ⟨rfl, _, (by rw [unhide HJJ]; exact ⟨m2, sv2, rfl, unhide HOK2, unhide HM2, unhide HNX, _, _, _, _, _, _, _, _, _, _, _, _, _, _, _, _, _, _, _, _, _, _, _, _, _, _, _, _, _, _, _, _, _, _, _, _, _, _, _, _, _, _, _, _, _, _, _, _, _, _, _, _, _, _, _, _, _, _, _, _, _, _, _, _, _, _, _, _, _, _, _, _, _, _, _, _, _, _, _, _, _, _, _, _, _, _, _, _, _, _, rfl⟩)⟩
          | some e =>
            have HF : Hid (Hx.lookM h.l h.J h.takes m = (e, m2)) := by
              show _ = _
              rw [← unhide HLK]
              exact Hx.lookM_some (unhide HO1)
            have hene : ((e : Int) == 0) = false := by
              have := unhide HENE e rfl
              simp; omega
            simp only [Option.getD_some] at HB
            go_wp2_with (first | (go_at_call 81; refine (unhide HOV _ (unhide HMEM)).mono ?_; rintro e w9 ⟨rfl, n9, rfl⟩) | (go_at_call 82; refine (unhide HB _ ((unhide HMEM).drewN _)).mono ?_; rintro e w8 ⟨rfl, sv2, hm2⟩; have HM2 := hide hm2; clear hm2))
            show R _ _
            rw [unhide HR, unhide HF]
            exact ⟨rfl, _, unhide HM2⟩
  · clear HM HO
    intro n a wr hj
    rw [hJJ] at hj
    obtain ⟨m1, sv1, hmu, hok, hmem, hlk, u4, u5, u6, u7, u8, u9, u10, u11, u12, u13, u14, u15, u16, u17, u18, u19, u20, u21, u22, u23, u24, u25, u26, u27, u28, u29, u30, u31, u32, u33, u34, u35, u36, u37, u38, u39, u40, u41, u42, u43, u44, u45, u46, u47, u48, u49, u50, u51, u52, u53, u54, u55, u56, u57, u58, u59, u60, u61, u62, u63, u64, u65, u66, u67, u68, u69, u70, u71, u72, u73, u74, u75, u76, u77, u78, u79, u80, u81, u82, u83, u84, u85, u86, u87, u88, u89, u90, u91, u92, u93, rfl⟩ := hj
    have HMU := hide hmu
    have HOK := hide hok
    have HMEM := hide hmem
    have HLK := hide hlk
    clear hJJ hmu hok hmem hlk
    have c6 : wr.cell? ⟨h.b, 6, none⟩ = some (.bool m1.work) := blk_cell (unhide HMEM).blk 6
    have c5 : wr.cell? ⟨h.b, 5, none⟩ = some (.int .i64 (m1.k : Int)) := blk_cell (unhide HMEM).blk 5
    have c4 : wr.cell? ⟨h.b, 4, none⟩ = some (.int .i64 (m1.time : Int)) := blk_cell (unhide HMEM).blk 4
    have c1 : wr.cell? ⟨h.b, 1, none⟩ = some h.tv := blk_cell (unhide HMEM).blk 1
    have c7 : wr.cell? ⟨h.b, 7, none⟩ = some sv1 := blk_cell (unhide HMEM).blk 7
    have hMN := (unhide HOK).mn (unhide HS).ll
    have HMN := hide hMN
    have htm := hMN.time
    have hll := (unhide HS).ll
    obtain ⟨atv, capt, etv⟩ := own_form ((unhide HMEM).t (unhide HS))
    clear hMN
    cases hx : h.l[m1.k]? with
    | none =>
      have hkl : h.l.length ≤ m1.k := List.getElem?_eq_none_iff.1 hx
      have hw : m1.work = false := by
        cases e : m1.work
        · rfl
        · have := ((unhide HOK).work e).1; omega
      have hke : m1.k = h.l.length := by have := ((unhide HOK).free hw).1; omega
      have HF : Hid (Hx.lookM h.l h.J h.takes m = (1, m1)) := by
        show _ = _
        rw [← unhide HLK]
        exact Hx.lookM_some (by simp [Hx.oneM, hx, hw])
      have hkeI : ((m1.k : Int) == (h.l.length : Int)) = true := by simp [hke]
      rw [hw] at c6
      rw [etv] at c1
      clear hx hkl hw hke etv
      go_wp2_with fail
      go_quiet (fail)
      go_wp2_with fail
      go_quiet (fail)
      go_wp2_with fail
      show R _ _
      rw [unhide HR, unhide HF]
      first | exact ⟨rfl, _, (unhide HMEM).drewN _⟩ | exact ⟨rfl, _, ((unhide HMEM).drewN _).drewN _⟩ | exact ⟨rfl, _, (((unhide HMEM).drewN _).drewN _).drewN _⟩
    | some x =>
      have hkl : m1.k < h.l.length := (List.getElem?_eq_some_iff.1 hx).1
      have hkI : (m1.k : Int) < (h.l.length : Int) := by omega
      have hxok := (unhide HS).ok x (List.mem_of_getElem? hx)
      have hxt := hxok.t
      have hxh := hxok.hi
      obtain ⟨gt, capt2, etv2, _, _⟩ := own_pos ((unhide HMEM).t (unhide HS)) (by omega)
      rw [etv2] at c1
      have hrow := (unhide HMEM).t (unhide HS)
      rw [etv2] at hrow
      obtain ⟨x0, x1, x2, x3, x4, x5, x6, x7, x8, x9, x10⟩ := pt_cells hrow rfl hx
      have HX := hide hx
      clear hx hrow etv etv2 hxok x0 x2 x3 x4 x5 x6 x7 x9 x10
      cases hw : m1.work
      · rw [hw] at c6
        have hkne : ((m1.k : Int) == (h.l.length : Int)) = false := by simp; omega
        have hslk := (unhide HOK).free hw
        by_cases ht : m1.time < x.t
        · have HF : Hid (Hx.lookM h.l h.J h.takes m = (0, m1)) := by
            show _ = _
            rw [← unhide HLK]
            exact Hx.lookM_some (by simp [Hx.oneM, unhide HX, hw, ht])
          have htI : (m1.time : Int) < (x.t : Int) := by omega
          clear ht hw hslk
          go_wp2_with fail
          go_quiet (fail)
          go_wp2_with fail
          go_quiet (fail)
          go_wp2_with fail
          go_quiet (fail)
          go_wp2_with fail
          show R _ _
          rw [unhide HR, unhide HF]
          first | exact ⟨rfl, _, (unhide HMEM).drewN _⟩ | exact ⟨rfl, _, ((unhide HMEM).drewN _).drewN _⟩ | exact ⟨rfl, _, (((unhide HMEM).drewN _).drewN _).drewN _⟩
        · have htI : ¬ (m1.time : Int) < (x.t : Int) := by omega
          have HONE : Hid (Hx.oneM h.l h.J h.takes m1 = Hx.beginM h.J x m1) := by show _ = _; simp [Hx.oneM, unhide HX, hw, ht]
          clear ht hw hslk
          obtain ⟨r, m2, hbm⟩ : ∃ r m2, Hx.beginM h.J x m1 = (r, m2) := ⟨_, _, rfl⟩
          have HENE : Hid (∀ e, r = some e → e ≠ 0) := fun e he => beginM_ne (m' := m2) (by rw [hbm, he])
          have HB : Hid (∀ w', Mem h w0 w' m1 sv1 (stsCells m1.sts) → Calls Tryd.prog 83 #[.pointer (some ⟨h.b, 0, none⟩)] w' fun e w' => e = .returned (.int .i64 ((r.getD 0 : Nat) : Int)) ∧ ∃ sv', Mem h w0 w' m2 sv' (stsCells m2.sts)) := fun w' hW' => by
            have := begin_any h w0 w' m1 sv1 x (unhide HS) hW' (unhide HX) (unhide HMN)
            rw [hbm] at this
            exact this
          have ho1 := unhide HONE
          rw [hbm] at ho1
          have HO1 := hide ho1
          have hok2 := oneM_ok (J := h.J) (unhide HOK) (unhide HS).kn
          rw [ho1] at hok2
          have HOK2 := hide hok2
          clear hbm ho1 hok2 HONE
          cases r with
          | none =>
            have HNX : Hid (Hx.lookM h.l h.J h.takes m2 = Hx.lookM h.l h.J h.takes m) := by
              show _ = _
              rw [← unhide HLK]
              exact (Hx.lookM_none (unhide HO1)).symm
            have HMU2 : Hid (Hx.muM h.l m2 < n) := by
              have := Hx.oneM_mu (unhide HO1)
              show _ < _
              have := unhide HMU
              omega
            simp only [Option.getD_none] at HB
            go_wp2_with fail
            go_quiet (fail)
            go_wp2_with fail
            go_quiet (fail)
            go_wp2_with fail
            go_quiet (fail)
            go_wp2_with (go_at_call 83; refine (unhide HB _ ((unhide HMEM).drewN _)).mono ?_; rintro e w8 ⟨rfl, sv2, hm2⟩; have HM2 := hide hm2; clear hm2)
            go_step3
            refine ⟨rfl, _, unhide HMU2, (by rw [unhide HJJ]; exact ⟨m2, sv2, rfl, unhide HOK2, unhide HM2, unhide HNX, _, _, _, _, _, _, _, _, _, _, _, _, _, _, _, _, _, _, _, _, _, _, _, _, _, _, _, _, _, _, _, _, _, _, _, _, _, _, _, _, _, _, _, _, _, _, _, _, _, _, _, _, _, _, _, _, _, _, _, _, _, _, _, _, _, _, _, _, _, _, _, _, _, _, _, _, _, _, _, _, _, _, _, _, _, _, _, _, _, _, rfl⟩)⟩
          | some e =>
            have HF : Hid (Hx.lookM h.l h.J h.takes m = (e, m2)) := by
              show _ = _
              rw [← unhide HLK]
              exact Hx.lookM_some (unhide HO1)
            have hene : ((e : Int) == 0) = false := by
              have := unhide HENE e rfl
              simp; omega
            simp only [Option.getD_some] at HB
            go_wp2_with fail
            go_quiet (fail)
            go_wp2_with fail
            go_quiet (fail)
            go_wp2_with fail
            go_quiet (fail)
            go_wp2_with (go_at_call 83; refine (unhide HB _ ((unhide HMEM).drewN _)).mono ?_; rintro e w8 ⟨rfl, sv2, hm2⟩; have HM2 := hide hm2; clear hm2)
            show R _ _
            rw [unhide HR, unhide HF]
            exact ⟨rfl, _, unhide HM2⟩
      · rw [hw] at c6
        obtain ⟨hk1, hsl⟩ := (unhide HOK).work hw
        obtain ⟨g, capg, esv, hg1, hg2⟩ := own_pos (unhide HMEM).row (by omega)
        obtain ⟨p, hp⟩ : ∃ p, m1.sts[m1.k]? = some p := ⟨_, List.getElem?_eq_getElem (by omega)⟩
        have hbeg : Hx.beganM m1 = p.1 := by rw [Hx.beganM, List.getD_eq_getElem?_getD, hp]; rfl
        have hp1 := (unhide HMN).sts p (List.mem_of_getElem? hp)
        have hslen := (unhide HMN).len
        have hksI : (m1.k : Int) < (m1.sts.length : Int) := by omega
        have cg : wr.cell? ⟨g, m1.k * 3, none⟩ = some (.int .i64 (p.1 : Int)) := by
          have hrow := (unhide HMEM).row
          rw [esv] at hrow
          rw [hrow.cellAt (m1.k * 3) (by omega)]
          have := stsCells_at m1.sts m1.k p hp 0 (by omega)
          rw [Nat.add_zero] at this
          rw [this]; rfl
        have HOV := hide (fun w' (hW' : Mem h w0 w' m1 sv1 (stsCells m1.sts)) => over_any h w0 w' m1 sv1 (unhide HS) hW' (show m1.k < m1.sts.length by omega) (unhide HMN))
        have HBEG := hide hbeg
        have HP := hide hp
        have HSL := hide hsl
        have HW := hide hw
        rw [esv] at c7
        clear hbeg hp hw hsl
        cases hov : Hx.overM h.takes m1
        · rw [hov] at HOV
          have HOVF := hide hov
          clear hov
          by_cases hlg : p.1 + x.hi < m1.time
          · have HF : Hid (Hx.lookM h.l h.J h.takes m = (3, m1)) := by
              show _ = _
              rw [← unhide HLK]
              exact Hx.lookM_some (by simp [Hx.oneM, unhide HX, unhide HW, unhide HOVF, unhide HBEG, hlg])
            have hlgI : (x.hi : Int) < (m1.time : Int) - (p.1 : Int) := by omega
            clear hlg
            go_wp2_with (go_at_call 81; refine (unhide HOV _ (unhide HMEM)).mono ?_; rintro e w9 ⟨rfl, n9, rfl⟩)
            go_quiet (fail)
            go_wp2_with fail
            show R _ _
            rw [unhide HR, unhide HF]
            first | exact ⟨rfl, _, (unhide HMEM).drewN _⟩ | exact ⟨rfl, _, ((unhide HMEM).drewN _).drewN _⟩ | exact ⟨rfl, _, (((unhide HMEM).drewN _).drewN _).drewN _⟩
          · have HF : Hid (Hx.lookM h.l h.J h.takes m = (0, m1)) := by
              show _ = _
              rw [← unhide HLK]
              exact Hx.lookM_some (by simp [Hx.oneM, unhide HX, unhide HW, unhide HOVF, unhide HBEG, hlg])
            have hlgI : ¬ (x.hi : Int) < (m1.time : Int) - (p.1 : Int) := by omega
            clear hlg
            go_wp2_with (go_at_call 81; refine (unhide HOV _ (unhide HMEM)).mono ?_; rintro e w9 ⟨rfl, n9, rfl⟩)
            go_quiet (fail)
            go_wp2_with fail
            show R _ _
            rw [unhide HR, unhide HF]
            first | exact ⟨rfl, _, (unhide HMEM).drewN _⟩ | exact ⟨rfl, _, ((unhide HMEM).drewN _).drewN _⟩ | exact ⟨rfl, _, (((unhide HMEM).drewN _).drewN _).drewN _⟩
        · rw [hov] at HOV
          obtain ⟨hkt, hle⟩ := Hx.over_iff'.1 hov
          obtain ⟨tk, htk⟩ : ∃ tk, h.takes[m1.k]? = some tk := ⟨_, List.getElem?_eq_getElem hkt⟩
          have htd : h.takes.getD m1.k 0 = tk := by rw [List.getD_eq_getElem?_getD, htk]; rfl
          have HONE : Hid (Hx.oneM h.l h.J h.takes m1 = Hx.finishM x tk m1) := by show _ = _; simp only [Hx.oneM, unhide HX, unhide HW, hov, htd, if_pos]
          obtain ⟨r, m2, hbm⟩ : ∃ r m2, Hx.finishM x tk m1 = (r, m2) := ⟨_, _, rfl⟩
          have HENE : Hid (∀ e, r = some e → e ≠ 0) := fun e he => finishM_ne (m' := m2) (by rw [hbm, he])
          have HB : Hid (∀ w', Mem h w0 w' m1 sv1 (stsCells m1.sts) → Calls Tryd.prog 82 #[.pointer (some ⟨h.b, 0, none⟩)] w' fun e w' => e = .returned (.int .i64 ((r.getD 0 : Nat) : Int)) ∧ ∃ sv', Mem h w0 w' m2 sv' (stsCells m2.sts)) := fun w' hW' => by
            have := finish_any h w0 w' m1 sv1 x tk p.1 p.2 (unhide HS) hW' (unhide HX) htk (unhide HP) (unhide HMN)
            rw [hbm] at this
            exact this
          have ho1 := unhide HONE
          rw [hbm] at ho1
          have HO1 := hide ho1
          have hok2 := oneM_ok (J := h.J) (unhide HOK) (unhide HS).kn
          rw [ho1] at hok2
          have HOK2 := hide hok2
          clear hbm ho1 hok2 HONE hov hkt hle htk htd
          cases r with
          | none =>
            have HNX : Hid (Hx.lookM h.l h.J h.takes m2 = Hx.lookM h.l h.J h.takes m) := by
              show _ = _
              rw [← unhide HLK]
              exact (Hx.lookM_none (unhide HO1)).symm
            have HMU2 : Hid (Hx.muM h.l m2 < n) := by
              have := Hx.oneM_mu (unhide HO1)
              show _ < _
              have := unhide HMU
              omega
            simp only [Option.getD_none] at HB
            go_wp2_with (first | (go_at_call 81; refine (unhide HOV _ (unhide HMEM)).mono ?_; rintro e w9 ⟨rfl, n9, rfl⟩) | (go_at_call 82; refine (unhide HB _ ((unhide HMEM).drewN _)).mono ?_; rintro e w8 ⟨rfl, sv2, hm2⟩; have HM2 := hide hm2; clear hm2))
            go_step3
            refine ⟨rfl, _, unhide HMU2, (by rw [unhide HJJ]; exact ⟨m2, sv2, rfl, unhide HOK2, unhide HM2, unhide HNX, _, _, _, _, _, _, _, _, _, _, _, _, _, _, _, _, _, _, _, _, _, _, _, _, _, _, _, _, _, _, _, _, _, _, _, _, _, _, _, _, _, _, _, _, _, _, _, _, _, _, _, _, _, _, _, _, _, _, _, _, _, _, _, _, _, _, _, _, _, _, _, _, _, _, _, _, _, _, _, _, _, _, _, _, _, _, _, _, _, _, rfl⟩)⟩
          | some e =>
            have HF : Hid (Hx.lookM h.l h.J h.takes m = (e, m2)) := by
              show _ = _
              rw [← unhide HLK]
              exact Hx.lookM_some (unhide HO1)
            have hene : ((e : Int) == 0) = false := by
              have := unhide HENE e rfl
              simp; omega
            simp only [Option.getD_some] at HB
            go_wp2_with (first | (go_at_call 81; refine (unhide HOV _ (unhide HMEM)).mono ?_; rintro e w9 ⟨rfl, n9, rfl⟩) | (go_at_call 82; refine (unhide HB _ ((unhide HMEM).drewN _)).mono ?_; rintro e w8 ⟨rfl, sv2, hm2⟩; have HM2 := hide hm2; clear hm2))
            show R _ _
            rw [unhide HR, unhide HF]
            exact ⟨rfl, _, unhide HM2⟩

end Go.Proofs.YtppcnlkhdgmaiaaDoor
