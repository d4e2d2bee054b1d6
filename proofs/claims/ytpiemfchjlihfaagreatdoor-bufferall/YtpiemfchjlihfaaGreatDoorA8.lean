/-
  An object that stands.
-/
import Derived.Test.YtpiemfchjlihfaaGreatDoorA7
import Derived.Deep.CutRange
set_option linter.unusedVariables false
namespace Go.Proofs.YtpiemfchjlihfaaGreatDoor
open Go.RowKit

set_option maxHeartbeats 400000 in
theorem piece_cell (b g N p n : Nat) (hp : (p : Int) + n ≤ N) (hN : (N : Int) ≤ 262145) (w : World) (k : w.cell? ⟨b, 14, none⟩ = some (.slice (some ⟨g, 0, none⟩) N N)) (hn : 0 < n) :
    Calls Tryz.prog 94 #[.pointer (some ⟨b, 0, none⟩), .int .i64 p, .int .i64 n] w fun e w' => e = .returned (.slice (some ⟨g, p, none⟩) n n) ∧ w = w' := by
  go_enter Tryz.func94, Tryz.ntmps94
  go_wp2
  go_ret
  refine ⟨?_, rfl⟩
  simp

set_option maxHeartbeats 2000000 in
theorem below_core (b g N p n : Nat) (m sr K P R A T : Int) (H : Bool) (top : Int) (h1 : (p : Int) < top) (h2 : top ≤ N) (hN : (N : Int) ≤ 262145) (hsz : 2 + P + R = n) (hle : (n : Int) ≤ top - p) (p0 : 0 ≤ P) (p1 : P ≤ 4095) (r0 : 0 ≤ R) (r1 : R ≤ 65535) (w : World)
    (hb : b < w.heap.size) (hg : g < w.heap.size) (c14 : w.cell? ⟨b, 14, none⟩ = some (.slice (some ⟨g, 0, none⟩) N N)) (cm : w.cell? ⟨g, p, none⟩ = some (.int .u64 m)) (cs : w.cell? ⟨g, p + 1, none⟩ = some (.int .u64 sr))
    (hu : ∀ w', Below w.heap.size w w' → Calls Tryz.prog 89 #[.int .u64 m] w' fun e w'' => e = .returned (.tuple #[hv 0 K P R A T H, .bool true]) ∧ Below w'.heap.size w' w'') :
    Calls Tryz.prog 101 #[.pointer (some ⟨b, 0, none⟩), .int .i64 top, .int .i64 p] w fun e w' => e = .returned (.tuple #[ov sr K P R A T H (.slice (some ⟨g, p, none⟩) n n), .bool true]) ∧ Below w.heap.size w w' := by
  have b0 : Below w.heap.size w (w.alloc (.cells ozero 146)) := Below.alloc (Below.refl _ _) (Nat.le_refl _) _
  have o0 := Oc.new w ozero
  have k14 := (b0.cell (p := ⟨b, 14, none⟩) hb).trans c14
  have km := (b0.cell (p := ⟨g, p, none⟩) hg).trans cm
  have hu0 := hu _ b0
  clear hu
  go_enter Tryz.func101, Tryz.ntmps101
  go_wp2_with fail
  refine hu0.mono ?_
  rintro e w1 ⟨rfl, b1⟩
  have o1 := o0.below b1
  have b2 := b0.trans (b1.mono b0.size)
  clear hu0 b0 b1 k14 km o0
  go_wp2_with fail
  refine (size_any3 0 K P R A T H p0 p1 r0 r1 _).mono ?_
  rintro e w' ⟨rfl, hw⟩
  have x1 := Box.new w1 46 (.int .u64 0) (.int .i64 K) (.int .i64 P) (.int .i64 R) (.int .i64 A) (.int .i64 T) (.bool H)
  obtain ⟨w2, rfl, o2, b3, x2⟩ : ∃ w2, w' = w2 ∧ Oc w2 w.heap.size ozero ∧ Below w.heap.size w w2 ∧ Box w2 w1.heap.size (.int .u64 0) (.int .i64 K) (.int .i64 P) (.int .i64 R) (.int .i64 A) (.int .i64 T) (.bool H) := by
    refine ⟨w', rfl, ?_, ?_, ?_⟩
    · rw [hw]; exact (o1.below (Below.alloc (Below.refl _ _) (Nat.le_refl _) _)).below (Below.alloc (Below.refl _ _) (Nat.le_refl _) _)
    · rw [hw]; exact Below.alloc (Below.alloc b2 b2.size _) (by have := b2.size; simp; omega) _
    · rw [hw]; exact x1.keep (Below.alloc (Below.refl _ _) (Nat.le_refl _) _) x1.lt
  have hR1 := o1.lt
  clear hw o1 b2 x1
  have k14 := (b3.cell (p := ⟨b, 14, none⟩) hb).trans c14
  have ks := (b3.cell (p := ⟨g, p + 1, none⟩) hg).trans cs
  have hxl := x2.lt
  have hsz' : 2 + P + R = (n : Int) := hsz
  rw [hsz']
  go_upto_region 7 with fail
  obtain ⟨y0, y1, y2, y3, y4, y5, y6, -, -, -, -, -, -, -⟩ := x2
  generalize w1.heap.size = B1 at *
  go_cut [11] from 39 to 44 (fun v wq => v = .pointer (some ⟨w'.heap.size, 0, none⟩) ∧ wq = (w'.alloc (.cells (ocells 0 K P R A T H (.slice (some ⟨g, p, none⟩) n n)) 146)).drew)
  case first =>
    go_region_with (go_at_call 94; refine (piece_cell b g N p n (by omega) hN _ (by first | exact k14 | exact Lib.cell?_alloc_some _ k14) (by omega)).mono ?_; rintro e Wx ⟨rfl, rfl⟩)
    all_goals (go_wp2_with fail; go_meet; exact ⟨rfl, rfl⟩)
  case rest =>
  obtain ⟨rfl, hwq⟩ := hcut
  clear y0 y1 y2 y3 y4 y5 y6
  have q1 : Oc wc w'.heap.size (ocells 0 K P R A T H (.slice (some ⟨g, p, none⟩) n n)) := by rw [hwq]; exact ⟨(Oc.new w' _).at_⟩
  have q2 : Oc wc w.heap.size ozero := by rw [hwq]; exact ⟨(o2.below (Below.alloc (Below.refl _ _) (Nat.le_refl _) _)).at_⟩
  have q3 : Below w.heap.size w wc := by rw [hwq]; exact below_drewN (Below.alloc b3 b3.size _) 1
  have q4 : wc.cell? ⟨g, p + 1, none⟩ = some (.int .u64 sr) := (q3.cell (p := ⟨g, p + 1, none⟩) hg).trans cs
  have hne : w.heap.size ≠ w'.heap.size := Nat.ne_of_lt o2.lt
  have hle3 := b3.size
  clear hwq o2 b3 k14 ks
  generalize w'.heap.size = B3 at *
  have z0 := cell_of_row _ _ 0 _ _ _ q1.at_
  have z7 := cell_of_row _ _ 7 _ _ _ q1.at_
  have zf : wc.frozen? ⟨B3, 0, none⟩ = false := by unfold World.frozen?; simp only [q1.at_]; simp
  simp only [List.getElem?_toArray, List.getElem?_cons_zero, List.getElem?_cons_succ] at z0 z7
  have r1 : Oc (wc.setCell ⟨B3, 0, none⟩ (.int .u64 sr)) B3 (ocells sr K P R A T H (.slice (some ⟨g, p, none⟩) n n)) := ⟨by simp [World.setCell, Array.getElem?_modify, q1.at_]⟩
  have r2 : Oc (wc.setCell ⟨B3, 0, none⟩ (.int .u64 sr)) w.heap.size ozero := ⟨(Below.heap_setCell _ _ _ _ hne).trans q2.at_⟩
  have r3 : Below w.heap.size w (wc.setCell ⟨B3, 0, none⟩ (.int .u64 sr)) := Below.setCell q3 hle3 _
  have hn2 : 2 ≤ n := by omega
  go_upto_region 9 with fail
  clear q1 q2 q3 q4 z0 z7 zf
  generalize wc.setCell ⟨B3, 0, none⟩ (.int .u64 sr) = w4 at *
  have hld : (Instr.loadAt 146 (.pointer (some ⟨B3, 0, none⟩))).run Tryz.prog w4 = .ok (ov sr K P R A T H (.slice (some ⟨g, p, none⟩) n n)) w4 := by
    simp only [Instr.loadAt, Instr.sureAddr, Sem.run_bind, Sem.run_pure, Result.andThen]
    exact r1.load
  go_wp2_with (first | (refine wpList_load_row rfl 146 _ rfl B3 rfl 146 _ (0, 0) _ r1.at_ Tryz.underlying146 rfl oinfo ?_) | (refine wpList_store_row rfl 146 _ _ rfl w.heap.size (ocells sr K P R A T H (.slice (some ⟨g, p, none⟩) n n)) rfl rfl 146 ozero r2.at_ oinfo rfl (by kernel_rfl) ?_))
  have o3 : Oc (w4.setRow w.heap.size (ocells sr K P R A T H (.slice (some ⟨g, p, none⟩) n n))) w.heap.size (ocells sr K P R A T H (.slice (some ⟨g, p, none⟩) n n)) := ⟨setRow_heap _ _ _ _ _ _ r2.at_⟩
  have b4 := below_setRow r3 (Nat.le_refl _) (ocells sr K P R A T H (.slice (some ⟨g, p, none⟩) n n))
  generalize w4.setRow w.heap.size (ocells sr K P R A T H (.slice (some ⟨g, p, none⟩) n n)) = w5 at *
  clear r1 r2 r3 hld
  go_wp2
  refine bodyPost_ret (results_cell2 Tryz.results101 rfl o3.load) rfl ?_
  exact ⟨rfl, b4⟩

theorem below_yes (b g : Nat) (c : Cfg) (x : Tps) (sw : Bool) (ws : Nat → Int) (top a : Int) (h0 : 0 ≤ a) (h1 : a < top) (h2 : top ≤ c.words) (hs : Stands c ws top a) (w : World) (h : Ar w b g c x sw ws) (hL : Laid w) :
    Calls Tryz.prog 101 #[.pointer (some ⟨b, 0, none⟩), .int .i64 top, .int .i64 a] w fun e w' => e = .returned (.tuple #[obv c g ws a, .bool true]) ∧ Below w.heap.size w w' := by
  obtain ⟨p, rfl⟩ := Int.eq_ofNat_of_zero_le h0
  have q := h.words
  have z := osz_in c ws p
  obtain ⟨hd, hle⟩ := hs
  have hN : (c.words.toNat : Int) = c.words := Int.toNat_of_nonneg (by omega)
  have hz : ((osz c ws p).toNat : Int) = osz c ws p := Int.toNat_of_nonneg (by omega)
  have k := below_core b g c.words.toNat p (osz c ws p).toNat (wat c ws p) (wat c ws ((p : Int) + 1)) (kdOf (wat c ws p)) (ptOf (wat c ws p)) (rwOf (wat c ws p)) (agOf (wat c ws p)) (stOf (wat c ws p)) (hdOf (wat c ws p)) top h1 (by omega) (by omega) (by rw [hz]; rfl) (by omega) (pt_in _).1 (pt_in _).2 (rw_in _).1 (rw_in _).2 w h.own.lt h.row.lt h.cell14
    (h.cellW p h0 (by omega) p rfl) (h.cellW ((p : Int) + 1) (by omega) (by omega) (p + 1) (by omega)) (fun w' l => unpack_yes _ (h.wat_wd _) hd w' (hL.keep l))
  exact k

/-- How far fillers are passed over. -/
inductive Past (c : Cfg) (ws : Nat → Int) (top : Int) : Int → Int → Prop
  | done {a : Int} (h : top ≤ a ∨ ¬ (IsTag 3 (wat c ws a) ∧ wat c ws a / 4 ≤ top - a)) : Past c ws top a a
  | step {a e : Int} (h : a < top) (ht : IsTag 3 (wat c ws a)) (hl : wat c ws a / 4 ≤ top - a) (r : Past c ws top (a + wat c ws a / 4) e) : Past c ws top a e

theorem Past.ge {c : Cfg} {ws : Nat → Int} {top a e : Int} (h : Past c ws top a e) : a ≤ e := by
  induction h with
  | done => exact Int.le_refl _
  | step h ht hl r ih => have := ht.2.1; omega

theorem Past.le {c : Cfg} {ws : Nat → Int} {top a e : Int} (h : Past c ws top a e) (ha : a ≤ top) : e ≤ top := by
  induction h with
  | done => exact ha
  | step h ht hl r ih => exact ih (by omega)

set_option maxHeartbeats 2000000 in
theorem past_any (b g : Nat) (c : Cfg) (x : Tps) (sw : Bool) (ws : Nat → Int) (top a e : Int) (h0 : 0 ≤ a) (h2 : top ≤ c.words) (hp : Past c ws top a e) (w : World) (h : Ar w b g c x sw ws) (hL : Laid w) :
    Calls Tryz.prog 100 #[.pointer (some ⟨b, 0, none⟩), .int .i64 top, .int .i64 a] w fun r w' => r = .returned (.int .i64 e) ∧ Below w.heap.size w w' := by
  have q := h.words
  have hN : (c.words.toNat : Int) = c.words := Int.toNat_of_nonneg (by omega)
  have Hh : Hid (Ar w b g c x sw ws) := h
  clear h
  go_enter Tryz.func100, Tryz.ntmps100
  go_wp2
  go_loopw [2] (fun v wr => ∃ i : Int, 0 ≤ i ∧ v = .int .i64 i ∧ Past c ws top i e ∧ ∃ n, wr = w.drewN n) (fun v _ => (top - intOf v).toNat)
  case atStart => exact ⟨a, h0, rfl, hp, 0, rfl⟩
  case round =>
    obtain ⟨i, hi, rfl, hr, n, rfl⟩ := hrel
    by_cases hlt : i < top
    · obtain ⟨p, rfl⟩ := Int.eq_ofNat_of_zero_le hi
      have k14 : (w.drewN n).cell? ⟨b, 14, none⟩ = _ := Hh.out.cell14
      have kw : (w.drewN n).cell? ⟨g, p, none⟩ = _ := Hh.out.cellW p hi (by omega) p rfl
      have wd := Hh.out.wat_wd (p : Int)
      have hf := filled_any (wat c ws p) wd (w.drewN n) hL.b
      have Hr : Hid (Past c ws top p e) := hr
      clear hr
      by_cases ht : IsTag 3 (wat c ws p) ∧ wat c ws p / 4 ≤ top - p
      · have hnx : Past c ws top (p + wat c ws p / 4) e := by
          rcases Hr.out with ⟨hd⟩ | ⟨_, _, _, r⟩
          · rcases hd with hd | hd
            · omega
            · exact absurd ht hd
          · exact r
        have e1 : tn 3 (wat c ws p) = wat c ws p / 4 := by unfold tn; rw [if_pos ht.1]
        have g1 := ht.1.2.1
        have g2 := ht.2
        rw [e1, decide_eq_true ht.1] at hf
        have Hnx : Hid (Past c ws top (p + wat c ws p / 4) e) := hnx
        clear ht hnx e1
        generalize hmm : wat c ws p / 4 = t at hf g1 g2
        have Hm : Hid (wat c ws p / 4 = t) := hmm
        clear hmm
        generalize c.words.toNat = N at *
        go_wp2_with fail
        refine hf.mono ?_
        rintro r w' ⟨rfl, n', rfl⟩
        go_wp2
        go_roundw
        case rel => exact ⟨p + t, by omega, rfl, by rw [← Hm.out]; exact Hnx.out, n + n', rfl⟩
        case measure => simp [intOf]; omega
      · have he : e = p := by
          rcases Hr.out with ⟨_⟩ | ⟨_, h1, h2, r⟩
          · rfl
          · exact absurd ⟨h1, h2⟩ ht
        subst he
        by_cases ht1 : IsTag 3 (wat c ws p)
        · have g2 : ¬ wat c ws p / 4 ≤ top - p := fun e => ht ⟨ht1, e⟩
          have e1 : tn 3 (wat c ws p) = wat c ws p / 4 := by unfold tn; rw [if_pos ht1]
          rw [e1, decide_eq_true ht1] at hf
          clear ht ht1 e1 Hr
          generalize wat c ws p / 4 = t at hf g2
          generalize c.words.toNat = N at *
          go_wp2_with fail
          refine hf.mono ?_
          rintro r w' ⟨rfl, n', rfl⟩
          go_wp2
          go_ret
          exact ⟨rfl, below_drewN (Below.refl _ _) _⟩
        · rw [decide_eq_false ht1] at hf
          clear ht ht1 Hr
          generalize tn 3 (wat c ws p) = t at hf
          generalize c.words.toNat = N at *
          go_wp2_with fail
          refine hf.mono ?_
          rintro r w' ⟨rfl, n', rfl⟩
          go_wp2
          go_ret
          exact ⟨rfl, below_drewN (Below.refl _ _) _⟩
    · have he : e = i := by
        rcases hr with ⟨_⟩ | ⟨h1, _, _, _⟩
        · rfl
        · omega
      subst he
      clear hr hp
      go_wp2
      go_ret
      exact ⟨rfl, below_drewN (Below.refl _ _) _⟩

end Go.Proofs.YtpiemfchjlihfaaGreatDoor
