/-
  Neighbours of a configuration, by the program.
-/
import Derived.Test.YtlbmlnmgbjhljaaTG2
import Derived.Maps.AppendAt
set_option linter.unusedVariables false
set_option maxRecDepth 20000
namespace Go.Proofs.Ytlbmlnmgbjhljaa
open Go.RowKit

abbrev tagg (s : Int) : Value := .agg #[.int .i64 (-s), .int .i64 s]
theorem tidx (s : Int) (j : Nat) (hj : j < 2) (w : World) : (Instr.index 38 (tagg s) (.int .i64 j)).run Try.prog w = .ok (.int .i64 (tby j s)) w := by
  obtain rfl | rfl : j = 0 ∨ j = 1 := by omega
  all_goals kernel_rfl

theorem near_step (c : Cfg) (k j : Nat) (hj : j < 2) : near c (2 * k + (j + 1)) = near c (2 * k + j) ++ (if (nbr c k j).Okd then [nbr c k j] else []) := by
  have h : near c ((2 * k + j) + 1) = near c (2 * k + j) ++ (if (nbr c ((2 * k + j) / 2) ((2 * k + j) % 2)).Okd then [nbr c ((2 * k + j) / 2) ((2 * k + j) % 2)] else []) := rfl
  rw [show (2 * k + j) / 2 = k by omega, show (2 * k + j) % 2 = j by omega] at h
  exact h

theorem info_partsC {o : Option TypeInfo} {z : Option Value} {s b : Nat} (h : o.map (fun i => (i.zero, i.size, i.bytes)) = some (z, s, b)) : ∃ i, o = some i ∧ i.zero = z ∧ i.size = s ∧ i.bytes = b := by
  cases o with
  | none => cases h
  | some i =>
    simp only [Option.map_some, Option.some.injEq, Prod.mk.injEq] at h
    exact ⟨i, rfl, h.1, h.2.1, h.2.2⟩

abbrev zc : Value := .agg #[.int .i64 0, .int .i64 0, .int .i64 0, .int .i64 0, .int .i64 0, .int .i64 0, .int .i64 0, .int .i64 0, .int .i64 0, .int .i64 0, .int .i64 0, .int .i64 0, .int .i64 0, .int .i64 0]

/-- One more behind a list of one's own. -/
theorem Cl.snoc {w w' : World} {base : Nat} {v v' : Value} {l : List Cfg} {x : Cfg} (h : Cl w base v l) (h' : w'.ownsRow base 28 14 v' (l.length + 1) (ccl l ++ (ccells x).toList)) (hg : (w.alloc (.cells (ccells x) 28)).grownBy w' v.ownBlock) (hb : base ≤ w.heap.size) :
    Cl w' base v' (l ++ [x]) ∧ Kg.Touch v.ownBlock.toList w w' ∧ Below base w w' := by
  have t9 : Kg.Touch v.ownBlock.toList w w' := (Kg.Touch.alloc _ w (.cells (ccells x) 28)).trans (Kg.Touch.grown hg (fun k hk => by rw [Option.mem_toList]; exact hk.symm ▸ rfl))
  refine ⟨?_, t9, t9.below hb (fun k hk => ?_)⟩
  · show w'.ownsRow _ _ _ _ (l ++ [x]).length (ccl (l ++ [x]))
    rw [ccl_snoc, List.length_append]
    exact h'
  · rw [Option.mem_toList] at hk
    exact (World.ownsRow.lt h k hk).1

theorem tby_ok {j : Nat} {s : Int} (h1 : 1 ≤ s) (h2 : s ≤ 16384) : -16384 ≤ tby j s ∧ tby j s ≤ 16384 := by unfold tby; split <;> omega

set_option maxHeartbeats 8000000 in
theorem tGrid_no (c : Cfg) (hc : ¬ c.Ok) (w : World) :
    Calls Try.prog 8 #[cv c] w fun e w' => e = .returned (.slice none 0 0) ∧ Below w.heap.size w w' := by
  have q := valid_any c false (by simp [hc]) (w.alloc (.cells (ccells c) 28))
  have b0 : Below w.heap.size w (w.alloc (.cells (ccells c) 28)) := Below.alloc (Below.refl _ _) (Nat.le_refl _) _
  have H0 : Hid (Cfd (w.alloc (.cells (ccells c) 28)) w.heap.size c) := Cfd.new w c
  have k : ∀ j v, (ccells c)[j]? = some v → (w.alloc (.cells (ccells c) 28)).cell? ⟨w.heap.size, j, none⟩ = some v := fun j v hv => (H0.out.cell j).trans hv
  have k0 := k 0 (.int .i64 c.eden) rfl
  have k1 := k 1 (.int .i64 c.surv) rfl
  have k2 := k 2 (.int .i64 c.ten) rfl
  have k3 := k 3 (.int .i64 c.large) rfl
  have k4 := k 4 (.int .i64 c.floor) rfl
  have k5 := k 5 (.int .i64 c.num) rfl
  have k6 := k 6 (.int .i64 c.den) rfl
  have k7 := k 7 (.int .i64 c.target) rfl
  have k8 := k 8 (.int .i64 c.maxAge) rfl
  have k9 := k 9 (.int .i64 c.threads) rfl
  have k10 := k 10 (.int .i64 c.slots) rfl
  have k11 := k 11 (.int .i64 c.handles) rfl
  have k12 := k 12 (.int .i64 c.buffer) rfl
  have k13 := k 13 (.int .i64 c.workers) rfl
  clear k
  go_enter Try.func8, Try.ntmps8
  go_upto_region 1 with fail
  generalize (w.alloc (.cells (ccells c) 28)) = w0 at *
  go_wp2_with fail
  refine q.mono ?_
  rintro e w1 ⟨rfl, b1⟩
  go_wp2
  go_ret
  exact ⟨rfl, b0.trans (b1.mono b0.size)⟩

set_option maxHeartbeats 8000000 in
theorem tGrid_yes (c : Cfg) (hc : c.Ok) (w : World) :
    Calls Try.prog 8 #[cv c] w fun e w' => ∃ v, e = .returned v ∧ Cl w' w.heap.size v (near c 12) ∧ Below w.heap.size w w' := by
  have q := valid_any c true (by simp [hc]) (w.alloc (.cells (ccells c) 28))
  have b0 : Below w.heap.size w (w.alloc (.cells (ccells c) 28)) := Below.alloc (Below.refl _ _) (Nat.le_refl _) _
  have H0 : Hid (Cfd (w.alloc (.cells (ccells c) 28)) w.heap.size c) := Cfd.new w c
  have k : ∀ j v, (ccells c)[j]? = some v → (w.alloc (.cells (ccells c) 28)).cell? ⟨w.heap.size, j, none⟩ = some v := fun j v hv => (H0.out.cell j).trans hv
  have k0 := k 0 (.int .i64 c.eden) rfl
  have k1 := k 1 (.int .i64 c.surv) rfl
  have k2 := k 2 (.int .i64 c.ten) rfl
  have k3 := k 3 (.int .i64 c.large) rfl
  have k4 := k 4 (.int .i64 c.floor) rfl
  have k5 := k 5 (.int .i64 c.num) rfl
  have k6 := k 6 (.int .i64 c.den) rfl
  have k7 := k 7 (.int .i64 c.target) rfl
  have k8 := k 8 (.int .i64 c.maxAge) rfl
  have k9 := k 9 (.int .i64 c.threads) rfl
  have k10 := k 10 (.int .i64 c.slots) rfl
  have k11 := k 11 (.int .i64 c.handles) rfl
  have k12 := k 12 (.int .i64 c.buffer) rfl
  have k13 := k 13 (.int .i64 c.workers) rfl
  clear k
  have HO : Hid c.Ok := hc
  have HS : Hid ((w.alloc (.cells (ccells c) 28)).heap.size = w.heap.size + 1) := by show _ = _; simp
  have HB0 : Hid _ := b0
  clear hc b0
  go_enter Try.func8, Try.ntmps8
  go_upto_region 1 with fail
  generalize (w.alloc (.cells (ccells c) 28)) = w0 at *
  go_wp2_with fail
  refine q.mono ?_
  rintro e w1 ⟨rfl, b1⟩
  have H1 : Hid (Cfd w1 w.heap.size c) := H0.out.below b1
  have HB1 : Hid (Below w.heap.size w w1) := HB0.out.trans (b1.mono HB0.out.size)
  have HS1 : Hid (w.heap.size + 1 ≤ w1.heap.size) := by show _ ≤ _; rw [← HS.out]; exact b1.size
  clear q b1 H0 HB0 HS k0 k1 k2 k3 k4 k5 k6 k7 k8 k9 k10 k11 k12 k13
  have k0 := H1.out.cell 0
  have k1 := H1.out.cell 1
  have k2 := H1.out.cell 2
  have k3 := H1.out.cell 3
  have k4 := H1.out.cell 4
  have k5 := H1.out.cell 5
  have k6 := H1.out.cell 6
  have k7 := H1.out.cell 7
  have k8 := H1.out.cell 8
  have k9 := H1.out.cell 9
  have k10 := H1.out.cell 10
  have k11 := H1.out.cell 11
  have k12 := H1.out.cell 12
  have k13 := H1.out.cell 13
  have q := stepsOf_any c HO.out w1
  go_wp2_with fail
  refine q.mono ?_
  rintro e w2 ⟨rfl, b2⟩
  have H2 : Hid (Cfd w2 w.heap.size c) := H1.out.below b2
  have HB2 : Hid (Below w.heap.size w w2) := HB1.out.trans (b2.mono HB1.out.size)
  have HS2 : Hid (w.heap.size + 1 ≤ w2.heap.size) := Nat.le_trans HS1.out b2.size
  clear q b2 H1 HB1 HS1 k0 k1 k2 k3 k4 k5 k6 k7 k8 k9 k10 k11 k12 k13
  go_wp2
  go_loopw [3, 14] (fun v i wr => ∃ k : Nat, k ≤ 6 ∧ i = .int .i64 k ∧ Cl wr (w.heap.size + 1) v (near c (2 * k)) ∧ Cfd wr w.heap.size c ∧ Below w.heap.size w wr) (fun _ i _ => 6 - (intOf i).toNat)
  case atStart => exact ⟨0, by omega, rfl, World.ownsRow_nil _ _ _ _, H2.out, HB2.out⟩
  case round =>
    obtain ⟨k, hk, rfl, r1, r2, r3⟩ := hrel
    by_cases hlt : k < 6
    · have hx := sidx c k hlt
      have hs := tst_ok HO.out k
      generalize hst : tst c k = st at hx hs
      have Hst : Hid (tst c k = st) := hst
      clear hst
      obtain ⟨hs1, hs2⟩ := hs
      have hkI : (k : Int) < 6 := by omega
      have Hr1 : Hid _ := r1
      have Hr2 : Hid _ := r2
      have Hr3 : Hid _ := r3
      clear r1 r2 r3
      go_wp2
      go_loopw [3, 22] (fun v i wr => ∃ j : Nat, j ≤ 2 ∧ i = .int .i64 j ∧ Cl wr (w.heap.size + 1) v (near c (2 * k + j)) ∧ Cfd wr w.heap.size c ∧ Below w.heap.size w wr) (fun _ i _ => 2 - (intOf i).toNat)
      case atStart => exact ⟨0, by omega, rfl, Hr1.out, Hr2.out, Hr3.out⟩
      case round =>
        obtain ⟨j, hj, rfl, r1, r2, r3⟩ := hrel
        by_cases hlj : j < 2
        · have hy := tidx st j hlj
          have hb := tby_ok (j := j) hs1 hs2
          obtain ⟨by', hby⟩ : ∃ x, tby j st = x := ⟨_, rfl⟩
          rw [hby] at hy hb
          have Hby : Hid (tby j st = by') := hby
          clear hby
          obtain ⟨hb1, hb2⟩ := hb
          have hjI : (j : Int) < 2 := by omega
          have Hc1 : Hid (Cl _ (w.heap.size + 1) u3 (near c (2 * k + j))) := r1
          have Hc2 : Hid _ := r2
          have Hc3 : Hid _ := r3
          clear r1 r2 r3
          have k0 := Hc2.out.cell 0
          have k1 := Hc2.out.cell 1
          have k2 := Hc2.out.cell 2
          have k3 := Hc2.out.cell 3
          have k4 := Hc2.out.cell 4
          have k5 := Hc2.out.cell 5
          have k6 := Hc2.out.cell 6
          have k7 := Hc2.out.cell 7
          have k8 := Hc2.out.cell 8
          have k9 := Hc2.out.cell 9
          have k10 := Hc2.out.cell 10
          have k11 := Hc2.out.cell 11
          have k12 := Hc2.out.cell 12
          have k13 := Hc2.out.cell 13
          go_upto_region 11 with fail
          obtain ⟨A, hA⟩ : ∃ x, x = wr.heap.size := ⟨_, rfl⟩
          obtain ⟨w4, hw4⟩ : ∃ x, x = wr.alloc (.cells (ccells c) 28) := ⟨_, rfl⟩
          have HX4 : Hid (Cfd w4 A c) := by rw [hw4, hA]; exact Cfd.new wr c
          have h4 : Below wr.heap.size wr w4 := by rw [hw4]; exact Below.alloc (Below.refl _ _) (Nat.le_refl _) _
          have HA : Hid (w.heap.size + 1 ≤ A) := by show _ ≤ _; rw [hA]; exact Hc2.out.lt
          have HV : Hid (∀ q, u3.ownBlock = some q → q < A) := by
            show ∀ q, _ → _
            rw [hA]
            exact fun q hq => (Hc1.out.lt q hq).2
          have H41 : Hid (Cl w4 (w.heap.size + 1) u3 (near c (2 * k + j))) := Hc1.out.below h4
          have H42 : Hid (Cfd w4 w.heap.size c) := Hc2.out.below h4
          have H43 : Hid (Below w.heap.size w w4) := Hc3.out.trans (h4.mono Hc3.out.size)
          rw [← hw4, ← hA]
          clear h4 hw4 hA Hc1 Hc2 Hc3 k0 k1 k2 k3 k4 k5 k6 k7 k8 k9 k10 k11 k12 k13
          have q := turned_any A w4
          go_wp2_with fail
          refine q.mono ?_
          rintro e w5 ⟨rfl, b5⟩
          have HX5 : Hid (Cfd w5 A c) := HX4.out.below b5
          have H51 : Hid (Cl w5 (w.heap.size + 1) u3 (near c (2 * k + j))) := H41.out.below b5
          have H52 : Hid (Cfd w5 w.heap.size c) := H42.out.below b5
          have H53 : Hid (Below w.heap.size w w5) := H43.out.trans (b5.mono H43.out.size)
          clear q b5 HX4 H41 H42 H43
          have hp := pidx A k hlt
          have hc9 : w5.cell? ⟨A, toff k, none⟩ = some (.int .i64 (tof c k)) := (HX5.out.cell _).trans (tof_cell c k hlt)
          have hf9 : w5.frozen? ⟨A, toff k, none⟩ = false := Kg.heap_frozen HX5.out.at_ _
          obtain ⟨t1, t2⟩ := tof_ok HO.out k
          obtain ⟨o, ho⟩ : ∃ x, x = toff k := ⟨_, rfl⟩
          obtain ⟨f, hf⟩ : ∃ x, x = tof c k := ⟨_, rfl⟩
          rw [← ho] at hp hc9 hf9
          rw [← hf] at hc9 t1 t2
          have Ho : Hid (o = toff k) := ho
          have Hf : Hid (f = tof c k) := hf
          clear ho hf
          go_upto_region 12 with fail
          obtain ⟨w6, hw6⟩ : ∃ x, x = w5.setCell ⟨A, o, none⟩ (.int .i64 (f + by')) := ⟨_, rfl⟩
          obtain ⟨x, hx⟩ : ∃ x, x = nbr c k j := ⟨_, rfl⟩
          have HX6 : Hid (Cfd w6 A x) := by
            show Cfd _ _ _
            rw [hw6, hx, Ho.out, Hf.out]
            unfold nbr
            rw [Hst.out, Hby.out]
            exact HX5.out.turn k hlt _
          have t6 : Kg.Touch [A] w5 w6 := by rw [hw6]; exact Kg.Touch.setCell _ _ _ (by simp)
          have H61 : Hid (Cl w6 (w.heap.size + 1) u3 (near c (2 * k + j))) := Cl.touch H51.out t6 (fun q hq hm => by
            have := HV.out q hq
            simp at hm
            omega)
          have H62 : Hid (Cfd w6 w.heap.size c) := ⟨(t6.block _ H52.out.lt (by have := HA.out; simp; omega)).trans H52.out.at_⟩
          have H63 : Hid (Below w.heap.size w w6) := H53.out.trans (t6.below H53.out.size (fun q hq => by have := HA.out; simp at hq; omega))
          have Hx : Hid (x = nbr c k j) := hx
          rw [← hw6]
          clear t6 hw6 HX5 H51 H52 H53 Ho Hf Hby hp hc9 hf9 hx hb1 hb2 t1 t2 hy
          have k0 : _ = some (Value.int .i64 x.eden) := HX6.out.cell 0
          have k1 : _ = some (Value.int .i64 x.surv) := HX6.out.cell 1
          have k2 : _ = some (Value.int .i64 x.ten) := HX6.out.cell 2
          have k3 : _ = some (Value.int .i64 x.large) := HX6.out.cell 3
          have k4 : _ = some (Value.int .i64 x.floor) := HX6.out.cell 4
          have k5 : _ = some (Value.int .i64 x.num) := HX6.out.cell 5
          have k6 : _ = some (Value.int .i64 x.den) := HX6.out.cell 6
          have k7 : _ = some (Value.int .i64 x.target) := HX6.out.cell 7
          have k8 : _ = some (Value.int .i64 x.maxAge) := HX6.out.cell 8
          have k9 : _ = some (Value.int .i64 x.threads) := HX6.out.cell 9
          have k10 : _ = some (Value.int .i64 x.slots) := HX6.out.cell 10
          have k11 : _ = some (Value.int .i64 x.handles) := HX6.out.cell 11
          have k12 : _ = some (Value.int .i64 x.buffer) := HX6.out.cell 12
          have k13 : _ = some (Value.int .i64 x.workers) := HX6.out.cell 13
          have HN : Hid (near c (2 * k + (j + 1)) = near c (2 * k + j) ++ (if x.Okd then [x] else [])) := by
            show _ = _
            rw [Hx.out]
            exact near_step c k j hlj
          have q := valid_any x (decide x.Okd) (by rw [decide_eq_true_eq]; exact x.okd) w6
          by_cases hok : x.Okd
          · rw [decide_eq_true hok] at q
            go_wp2_with fail
            refine q.mono ?_
            rintro e w7 ⟨rfl, b7⟩
            have HX7 : Hid (Cfd w7 A x) := HX6.out.below b7
            have H71 : Hid (Cl w7 (w.heap.size + 1) u3 (near c (2 * k + j))) := Cl.below H61.out b7
            have H72 : Hid (Cfd w7 w.heap.size c) := H62.out.below b7
            have H73 : Hid (Below w.heap.size w w7) := H63.out.trans (b7.mono H63.out.size)
            clear q b7 HX6 H61 H62 H63 k0 k1 k2 k3 k4 k5 k6 k7 k8 k9 k10 k11 k12 k13
            have k0 : _ = some (Value.int .i64 x.eden) := HX7.out.cell 0
            have k1 : _ = some (Value.int .i64 x.surv) := HX7.out.cell 1
            have k2 : _ = some (Value.int .i64 x.ten) := HX7.out.cell 2
            have k3 : _ = some (Value.int .i64 x.large) := HX7.out.cell 3
            have k4 : _ = some (Value.int .i64 x.floor) := HX7.out.cell 4
            have k5 : _ = some (Value.int .i64 x.num) := HX7.out.cell 5
            have k6 : _ = some (Value.int .i64 x.den) := HX7.out.cell 6
            have k7 : _ = some (Value.int .i64 x.target) := HX7.out.cell 7
            have k8 : _ = some (Value.int .i64 x.maxAge) := HX7.out.cell 8
            have k9 : _ = some (Value.int .i64 x.threads) := HX7.out.cell 9
            have k10 : _ = some (Value.int .i64 x.slots) := HX7.out.cell 10
            have k11 : _ = some (Value.int .i64 x.handles) := HX7.out.cell 11
            have k12 : _ = some (Value.int .i64 x.buffer) := HX7.out.cell 12
            have k13 : _ = some (Value.int .i64 x.workers) := HX7.out.cell 13
            rw [if_pos hok] at HN
            obtain ⟨i0, hi0, hj0, hj1, hj2⟩ := info_partsC infoC
            have HI : Hid (Try.prog.info? 28 = some i0 ∧ i0.zero = some zc ∧ i0.size = 14 ∧ i0.bytes = 112) := ⟨hi0, hj0, hj1, hj2⟩
            clear hi0 hj0 hj1 hj2
            have hln := near_len c (2 * k + j)
            have hlk : 2 * k + j ≤ 12 := by omega
            obtain ⟨a7, c7, rfl⟩ := own_sl H71.out
            have HRow : Hid ((w7.alloc (.cells (ccells x) 28)).ownsRow (w.heap.size + 1) 28 14 (.slice a7 (near c (2 * k + j)).length c7) (near c (2 * k + j)).length (ccl (near c (2 * k + j)))) := Cl.below H71.out (Below.alloc (Below.refl _ _) (Nat.le_refl _) _)
            have HSz : Hid (w.heap.size + 1 ≤ w7.heap.size) := H72.out.lt
            go_wp2_with (at_builtin; refine wpList_append_own_at _ rfl _ _ 30 rfl (w.heap.size + 1) 28 i0 zc 14 112 Try.underlying30 HI.out.1 HI.out.2.1 HI.out.2.2.1 HI.out.2.2.2 rfl (by decide) _ _ _ rfl HRow.out ⟨w7.heap.size, 0, none⟩ 1 1 (ccells x).toList rfl rfl (cells_new w7 _ _) (by simp [Value.oneCell']) (by simp only [maxLen]; omega) (by omega) (by have := HSz.out; simp; omega) ?_; intro v8 w8 h8 g8 _ _)
            go_roundw
            case rel =>
              obtain ⟨y1, y2, y3⟩ := Cl.snoc H71.out h8 g8 HSz.out
              refine ⟨j + 1, by omega, by go_num, by rw [HN.out]; exact y1, ⟨(y2.block _ H72.out.lt (fun hm => ?_)).trans H72.out.at_⟩, H73.out.trans (y3.mono (by omega) |>.trans (Below.refl _ _))⟩
              rw [Option.mem_toList] at hm
              have := (World.ownsRow.lt H71.out _ hm).1
              omega
            case measure => simp [intOf]; omega
          · rw [decide_eq_false hok] at q
            rw [if_neg hok, List.append_nil] at HN
            go_wp2_with fail
            refine q.mono ?_
            rintro e w7 ⟨rfl, b7⟩
            have H71 : Hid (Cl w7 (w.heap.size + 1) u3 (near c (2 * k + j))) := Cl.below H61.out b7
            have H72 : Hid (Cfd w7 w.heap.size c) := H62.out.below b7
            have H73 : Hid (Below w.heap.size w w7) := H63.out.trans (b7.mono H63.out.size)
            clear q b7 HX6 H61 H62 H63 k0 k1 k2 k3 k4 k5 k6 k7 k8 k9 k10 k11 k12 k13
            go_wp2
            go_roundw
            case rel => exact ⟨j + 1, by omega, by go_num, by rw [HN.out]; exact H71.out, H72.out, H73.out⟩
            case measure => simp [intOf]; omega
        · have e : j = 2 := by omega
          subst e
          have Hc1 : Hid _ := r1
          have Hc2 : Hid _ := r2
          have Hc3 : Hid _ := r3
          clear r1 r2 r3
          go_wp2
          go_roundw
          case rel => exact ⟨k + 1, by omega, by go_num, Hc1.out, Hc2.out, Hc3.out⟩
          case measure => simp [intOf]; omega
    · have e : k = 6 := by omega
      subst e
      have Hr1 : Hid _ := r1
      have Hr3 : Hid _ := r3
      clear r1 r2 r3
      go_wp2
      go_ret
      exact ⟨_, rfl, Kg.row_base Hr1.out (by omega), Hr3.out⟩

end Go.Proofs.Ytlbmlnmgbjhljaa
