/-
  Neighbours of a configuration, by the document. (mkTG4.py prints this text.)
-/
import Derived.Test.YtlbmlnmgbjhljaaTG3
set_option linter.unusedVariables false
set_option maxRecDepth 20000
namespace Go.Proofs.Ytlbmlnmgbjhljaa
open Go.RowKit

def sgn (k : Nat) : Int := if k = 0 then -1 else 1
theorem sgn_mul (k : Nat) (q : Int) : sgn k * q = tby k q := by unfold sgn tby; split <;> omega
theorem sgn_ok (k : Nat) : -1 ≤ sgn k ∧ sgn k ≤ 1 := by unfold sgn; split <;> omega

/-- All twelve, whether they may be or not. -/
def alln (c : Cfg) : Nat → List Cfg
  | 0 => []
  | m + 1 => alln c m ++ [nbr c (m % 6) (m / 6)]
theorem alln_len (c : Cfg) : ∀ m, (alln c m).length = m
  | 0 => rfl
  | m + 1 => by unfold alln; rw [List.length_append, alln_len c m]; rfl
theorem alln_at (c : Cfg) : ∀ m i, i < m → (alln c m)[i]? = some (nbr c (i % 6) (i / 6))
  | 0, i, h => by omega
  | m + 1, i, h => by
    unfold alln
    by_cases e : i = m
    · subst e
      rw [List.getElem?_append_right (by rw [alln_len]; omega), alln_len, Nat.sub_self]
      rfl
    · rw [List.getElem?_append_left (by rw [alln_len]; omega)]
      exact alln_at c m i (by omega)
theorem alln_step (c : Cfg) (k f : Nat) (hf : f < 6) : alln c (6 * k + (f + 1)) = alln c (6 * k + f) ++ [nbr c f k] := by
  have h : alln c ((6 * k + f) + 1) = alln c (6 * k + f) ++ [nbr c ((6 * k + f) % 6) ((6 * k + f) / 6)] := rfl
  rw [show (6 * k + f) % 6 = f by omega, show (6 * k + f) / 6 = k by omega] at h
  exact h

theorem Cl.read {w : World} {base : Nat} {v : Value} {l : List Cfg} (h : Cl w base v l) {i : Nat} {c : Cfg} (hi : l[i]? = some c) : ∃ q cap, v = .slice (some ⟨q, 0, none⟩) l.length cap ∧ q < w.heap.size ∧ ∀ j, j < 14 → w.cell? ⟨q, i * 14 + j, none⟩ = (ccells c)[j]? := by
  have hl := (List.getElem?_eq_some_iff.1 hi).1
  rcases h.2 with ⟨-, h0⟩ | ⟨g, cap, cur, rfl, hb, hg, hcap, hm, hs, ht⟩
  · omega
  · refine ⟨g, cap, rfl, (Array.getElem?_eq_some_iff.1 hg).1, fun j hj => ?_⟩
    rw [cell_of_row _ _ _ cur 28 (0, 0) hg]
    have h1 := ccl_at l i j c hi hj
    rw [← ht, List.getElem?_take, if_pos (by omega), Array.getElem?_toList] at h1
    exact h1

set_option maxHeartbeats 8000000 in
theorem r21Grid_no (c : Cfg) (hc : ¬ c.Ok) (w : World) :
    Calls Try.prog 9 #[cv c] w fun e w' => e = .returned (.slice none 0 0) ∧ Below w.heap.size w w' := by
  have q := rvalid_any c (w.alloc (.cells (ccells c) 28))
  rw [decide_eq_false (fun h => hc (c.okd.1 h))] at q
  have b0 : Below w.heap.size w (w.alloc (.cells (ccells c) 28)) := Below.alloc (Below.refl _ _) (Nat.le_refl _) _
  have H0 : Hid (Cfd (w.alloc (.cells (ccells c) 28)) w.heap.size c) := Cfd.new w c
  have k0 : _ = some (Value.int .i64 c.eden) := H0.out.cell 0
  have k1 : _ = some (Value.int .i64 c.surv) := H0.out.cell 1
  have k2 : _ = some (Value.int .i64 c.ten) := H0.out.cell 2
  have k3 : _ = some (Value.int .i64 c.large) := H0.out.cell 3
  have k4 : _ = some (Value.int .i64 c.floor) := H0.out.cell 4
  have k5 : _ = some (Value.int .i64 c.num) := H0.out.cell 5
  have k6 : _ = some (Value.int .i64 c.den) := H0.out.cell 6
  have k7 : _ = some (Value.int .i64 c.target) := H0.out.cell 7
  have k8 : _ = some (Value.int .i64 c.maxAge) := H0.out.cell 8
  have k9 : _ = some (Value.int .i64 c.threads) := H0.out.cell 9
  have k10 : _ = some (Value.int .i64 c.slots) := H0.out.cell 10
  have k11 : _ = some (Value.int .i64 c.handles) := H0.out.cell 11
  have k12 : _ = some (Value.int .i64 c.buffer) := H0.out.cell 12
  have k13 : _ = some (Value.int .i64 c.workers) := H0.out.cell 13
  go_enter Try.func9, Try.ntmps9
  go_upto_region 1 with fail
  generalize (w.alloc (.cells (ccells c) 28)) = w0 at *
  go_wp2_with fail
  refine q.mono ?_
  rintro e w1 ⟨rfl, b1⟩
  go_wp2
  go_ret
  exact ⟨rfl, b0.trans (b1.mono b0.size)⟩

set_option maxHeartbeats 8000000 in
theorem r21Grid_yes (c : Cfg) (hc : c.Ok) (w : World) :
    Calls Try.prog 9 #[cv c] w fun e w' => ∃ v, e = .returned v ∧ Cl w' w.heap.size v (near c 12) ∧ Below w.heap.size w w' := by
  have q := rvalid_any c (w.alloc (.cells (ccells c) 28))
  rw [decide_eq_true (c.okd.2 hc)] at q
  have b0 : Below w.heap.size w (w.alloc (.cells (ccells c) 28)) := Below.alloc (Below.refl _ _) (Nat.le_refl _) _
  have H0 : Hid (Cfd (w.alloc (.cells (ccells c) 28)) w.heap.size c) := Cfd.new w c
  have k0 : _ = some (Value.int .i64 c.eden) := H0.out.cell 0
  have k1 : _ = some (Value.int .i64 c.surv) := H0.out.cell 1
  have k2 : _ = some (Value.int .i64 c.ten) := H0.out.cell 2
  have k3 : _ = some (Value.int .i64 c.large) := H0.out.cell 3
  have k4 : _ = some (Value.int .i64 c.floor) := H0.out.cell 4
  have k5 : _ = some (Value.int .i64 c.num) := H0.out.cell 5
  have k6 : _ = some (Value.int .i64 c.den) := H0.out.cell 6
  have k7 : _ = some (Value.int .i64 c.target) := H0.out.cell 7
  have k8 : _ = some (Value.int .i64 c.maxAge) := H0.out.cell 8
  have k9 : _ = some (Value.int .i64 c.threads) := H0.out.cell 9
  have k10 : _ = some (Value.int .i64 c.slots) := H0.out.cell 10
  have k11 : _ = some (Value.int .i64 c.handles) := H0.out.cell 11
  have k12 : _ = some (Value.int .i64 c.buffer) := H0.out.cell 12
  have k13 : _ = some (Value.int .i64 c.workers) := H0.out.cell 13
  have HO : Hid c.Ok := hc
  have HS : Hid ((w.alloc (.cells (ccells c) 28)).heap.size = w.heap.size + 1) := by show _ = _; simp
  have HB0 : Hid _ := b0
  clear hc b0
  go_enter Try.func9, Try.ntmps9
  go_upto_region 1 with fail
  generalize (w.alloc (.cells (ccells c) 28)) = w0 at *
  go_wp2_with fail
  refine q.mono ?_
  rintro e w2 ⟨rfl, b1⟩
  have H2 : Hid (Cfd w2 w.heap.size c) := H0.out.below b1
  have HB2 : Hid (Below w.heap.size w w2) := HB0.out.trans (b1.mono HB0.out.size)
  clear q b1 H0 HB0 HS k0 k1 k2 k3 k4 k5 k6 k7 k8 k9 k10 k11 k12 k13
  go_wp2
  go_loopw [3, 4] (fun v i wr => ∃ k : Nat, k ≤ 2 ∧ i = .int .i64 (2 * k - 1) ∧ Cl wr (w.heap.size + 1) v (alln c (6 * k)) ∧ Cfd wr w.heap.size c ∧ Below w.heap.size w wr) (fun _ i _ => 4 - (intOf i).toNat)
  case atStart => exact ⟨0, by omega, rfl, World.ownsRow_nil _ _ _ _, H2.out, HB2.out⟩
  case round =>
    obtain ⟨k, hk, rfl, r1, r2, r3⟩ := hrel
    by_cases hlt : k < 2
    · have Hr1 : Hid (Cl _ (w.heap.size + 1) u3 (alln c (6 * k))) := r1
      have Hr2 : Hid _ := r2
      have Hr3 : Hid _ := r3
      clear r1 r2 r3
      have hkI : (2 * k - 1 : Int) ≤ 1 := by omega
      obtain ⟨sg, hsg⟩ : ∃ x : Int, x = 2 * (k : Int) - 1 := ⟨_, rfl⟩
      have Hsg : Hid (sg = sgn k) := by
        show _ = _
        rw [hsg]
        unfold sgn
        split <;> omega
      have hs1 : -1 ≤ sg := by omega
      have hs2 : sg ≤ 1 := by omega
      have HG : Hid (sg = 2 * (k : Int) - 1) := hsg
      rw [← hsg]
      clear hsg
      go_wp2
      go_loopw [3, 5] (fun v i wr => ∃ f : Nat, f ≤ 6 ∧ i = .int .i64 f ∧ Cl wr (w.heap.size + 1) v (alln c (6 * k + f)) ∧ Cfd wr w.heap.size c ∧ Below w.heap.size w wr) (fun _ i _ => 6 - (intOf i).toNat)
      case atStart => exact ⟨0, by omega, rfl, Hr1.out, Hr2.out, Hr3.out⟩
      case round =>
        obtain ⟨f, hf, rfl, r1, r2, r3⟩ := hrel
        by_cases hlf : f < 6
        · have Hc1 : Hid (Cl _ (w.heap.size + 1) u3 (alln c (6 * k + f))) := r1
          have Hc2 : Hid _ := r2
          have Hc3 : Hid _ := r3
          clear r1 r2 r3
          have hfI : (f : Int) < 6 := by omega
          have k0 : _ = some (Value.int .i64 c.eden) := Hc2.out.cell 0
          have k1 : _ = some (Value.int .i64 c.surv) := Hc2.out.cell 1
          have k2 : _ = some (Value.int .i64 c.ten) := Hc2.out.cell 2
          have k3 : _ = some (Value.int .i64 c.large) := Hc2.out.cell 3
          have k4 : _ = some (Value.int .i64 c.floor) := Hc2.out.cell 4
          have k5 : _ = some (Value.int .i64 c.num) := Hc2.out.cell 5
          have k6 : _ = some (Value.int .i64 c.den) := Hc2.out.cell 6
          have k7 : _ = some (Value.int .i64 c.target) := Hc2.out.cell 7
          have k8 : _ = some (Value.int .i64 c.maxAge) := Hc2.out.cell 8
          have k9 : _ = some (Value.int .i64 c.threads) := Hc2.out.cell 9
          have k10 : _ = some (Value.int .i64 c.slots) := Hc2.out.cell 10
          have k11 : _ = some (Value.int .i64 c.handles) := Hc2.out.cell 11
          have k12 : _ = some (Value.int .i64 c.buffer) := Hc2.out.cell 12
          have k13 : _ = some (Value.int .i64 c.workers) := Hc2.out.cell 13
          go_upto_region 11 with fail
          obtain ⟨A, hA⟩ : ∃ x, x = wr.heap.size := ⟨_, rfl⟩
          obtain ⟨w4, hw4⟩ : ∃ x, x = wr.alloc (.cells (ccells c) 28) := ⟨_, rfl⟩
          have HX4 : Hid (Cfd w4 A c) := by rw [hw4, hA]; exact Cfd.new wr c
          have h4 : Below wr.heap.size wr w4 := by rw [hw4]; exact Below.alloc (Below.refl _ _) (Nat.le_refl _) _
          have HA : Hid (w.heap.size + 1 ≤ A) := by show _ ≤ _; rw [hA]; exact Hc2.out.lt
          have HV : Hid (∀ q, u3.ownBlock = some q → q < A) := by
            show ∀ q, _ → _
            rw [hA]
            exact fun q hq => (Hc1.out.lt q hq).2
          have H41 : Hid (Cl w4 (w.heap.size + 1) u3 (alln c (6 * k + f))) := Cl.below Hc1.out h4
          have H42 : Hid (Cfd w4 w.heap.size c) := Hc2.out.below h4
          have H43 : Hid (Below w.heap.size w w4) := Hc3.out.trans (h4.mono Hc3.out.size)
          rw [← hw4, ← hA]
          clear h4 hw4 hA Hc1 Hc2 Hc3 k0 k1 k2 k3 k4 k5 k6 k7 k8 k9 k10 k11 k12 k13
          obtain ⟨x, hx⟩ : ∃ x, x = nbr c f k := ⟨_, rfl⟩
          have HN : Hid (alln c (6 * k + (f + 1)) = alln c (6 * k + f) ++ [x]) := by
            show _ = _
            rw [hx]
            exact alln_step c k f hlf
          have HT : Hid (∀ (w6 : World) (y : Int), y = tof c f + tby k (tst c f) → w6 = w4.setCell ⟨A, toff f, none⟩ (.int .i64 y) ∨ w6 = w4.drew.setCell ⟨A, toff f, none⟩ (.int .i64 y) → Cfd w6 A x ∧ Cl w6 (w.heap.size + 1) u3 (alln c (6 * k + f)) ∧ Cfd w6 w.heap.size c ∧ Below w.heap.size w w6) := by
            intro w6 y hy hw6
            have key : ∀ w5 : World, Below w4.heap.size w4 w5 → w6 = w5.setCell ⟨A, toff f, none⟩ (.int .i64 y) → Cfd w6 A x ∧ Cl w6 (w.heap.size + 1) u3 (alln c (6 * k + f)) ∧ Cfd w6 w.heap.size c ∧ Below w.heap.size w w6 := by
              intro w5 b5 h6
              have t6 : Kg.Touch [A] w4 w6 := by rw [h6]; exact (Kg.Touch.of_below b5 _).trans (Kg.Touch.setCell _ _ _ (by simp))
              refine ⟨?_, Cl.touch H41.out t6 (fun q hq hm => ?_), ⟨(t6.block _ H42.out.lt (by have := HA.out; simp; omega)).trans H42.out.at_⟩, H43.out.trans (t6.below H43.out.size (fun q hq => by have := HA.out; simp at hq; omega))⟩
              · rw [h6, hx, hy]
                exact (HX4.out.below b5).turn f hlf _
              · have := HV.out q hq
                simp at hm
                omega
            rcases hw6 with h | h
            · exact key w4 (Below.refl _ _) h
            · exact key w4.drew (below_drewN (Below.refl _ _) 1) h
          have HAp : Hid (∀ (v8 : Value) (w6 w8 : World), Cl w6 (w.heap.size + 1) u3 (alln c (6 * k + f)) → Cfd w6 w.heap.size c → Below w.heap.size w w6 → w8.ownsRow (w.heap.size + 1) 28 14 v8 ((alln c (6 * k + f)).length + 1) (ccl (alln c (6 * k + f)) ++ (ccells x).toList) → (w6.alloc (.cells (ccells x) 28)).grownBy w8 u3.ownBlock → Cl w8 (w.heap.size + 1) v8 (alln c (6 * k + (f + 1))) ∧ Cfd w8 w.heap.size c ∧ Below w.heap.size w w8) := by
            intro v8 w6 w8 g1 g2 g3 h8 g8
            obtain ⟨y1, y2, y3⟩ := Cl.snoc g1 h8 g8 g2.lt
            refine ⟨by rw [HN.out]; exact y1, ⟨(y2.block _ g2.lt (fun hm => ?_)).trans g2.at_⟩, g3.trans (y3.mono (by omega))⟩
            rw [Option.mem_toList] at hm
            have := (World.ownsRow.lt g1 _ hm).1
            omega
          have Hx : Hid (x = nbr c f k) := hx
          have hlen : (alln c (6 * k + f)).length ≤ 12 := by rw [alln_len]; omega
          clear hx HN HV H41 H43
          have FIN : Hid (∀ f0 y0, f0 = tof c f → y0 = tby k (tst c f) → -16384 ≤ y0 ∧ y0 ≤ 16384 ∧ 0 ≤ f0 ∧ f0 ≤ 65536) := by
            intro f0 y0 h1 h2
            have a1 := tof_ok HO.out f
            have a2 := tst_ok HO.out f
            have a3 := tby_ok (j := k) a2.1 a2.2
            rw [h1, h2]
            exact ⟨a3.1, a3.2, a1.1, a1.2⟩
          have HSG : Hid (∀ q, sg * q = tby k q) := fun q => by rw [Hsg.out]; exact sgn_mul k q
          generalize hL : alln c (6 * k + f) = L at *
          obtain rfl | rfl | rfl | rfl | rfl | rfl : f = 0 ∨ f = 1 ∨ f = 2 ∨ f = 3 ∨ f = 4 ∨ f = 5 := by omega
          · have k0 : w4.cell? ⟨w.heap.size, 0, none⟩ = some (.int .i64 c.eden) := H42.out.cell 0
            have k1 : w4.cell? ⟨A, 0, none⟩ = some (.int .i64 c.eden) := HX4.out.cell 0
            have k2 : w4.frozen? ⟨A, 0, none⟩ = false := Kg.heap_frozen HX4.out.at_ _
            obtain ⟨y, hy⟩ : ∃ y, y = tby k (tst c 0) := ⟨_, rfl⟩
            obtain ⟨p1, p2, p3, p4⟩ := FIN.out c.eden y rfl hy
            have hm : sg * qt c.eden = y := (HSG.out _).trans hy.symm
            have q := (r21quarter_any c.eden p3 p4 w4.drew).mono fun e w' (h : _ ∧ w4.drew = w') => (⟨h.1, h.2.symm⟩ : e = _ ∧ w' = w4.drew)
            have HT' : Hid (∀ w6, w6 = (w4.setCell ⟨A, 0, none⟩ (.int .i64 (c.eden + y))).drew → _) := fun w6 h => HT.out w6 (c.eden + y) (by rw [hy]; rfl) (.inr h)
            have Hy : Hid _ := hy
            clear hy HT FIN HSG
            go_upto_region 13 with fail
            refine Kg.quiet_tail 9 Kg.mixed (by kernel_rfl) ?_
            simp only [List.take_succ_cons, List.take_zero, List.drop_succ_cons, List.drop_zero]
            repeat (go_big_quiet_step (exact q _))
            refine wpQuiet_nil ?_
            go_upto_region 24 with fail
            obtain ⟨g6, g1, g2, g3⟩ := HT'.out _ rfl
            generalize (w4.setCell ⟨A, 0, none⟩ (.int .i64 (c.eden + y))).drew = w6 at *
            have HX6 : Hid (Cfd w6 A x) := g6
            have H61 : Hid (Cl w6 (w.heap.size + 1) u3 L) := g1
            have H62 : Hid (Cfd w6 w.heap.size c) := g2
            have H63 : Hid (Below w.heap.size w w6) := g3
            clear g6 g1 g2 g3 HT' k0 k1 k2 q hm p1 p2 p3 p4
            have k0 : _ = some (Value.int .i64 x.eden) := HX6.out.cell 0
            have k1 : _ = some (Value.int .i64 x.surv) := HX6.out.cell 1
            have k2 : _ = some (Value.int .i64 x.ten) := HX6.out.cell 2
            have k3 : _ = some (Value.int .i64 x.large) := HX6.out.cell 3
            have k4 : _ = some (Value.int .i64 x.floor) := HX6.out.cell 4
            have k5 : _ = some (Value.int .i64 x.num) := HX6.out.cell 5
            have k6 : _ = some (Value.int .i64 x.den) := HX6.out.cell 6
            have k7 : _ = some (Value.int .i64 x.target) := HX6.out.cell 7
            have k8 : _ = some (Value.int .i64 x.maxAge) := HX6.out.cell 8
            have k9 : _ = some (Value.int .i64 x.threads) := HX6.out.cell 9
            have k10 : _ = some (Value.int .i64 x.slots) := HX6.out.cell 10
            have k11 : _ = some (Value.int .i64 x.handles) := HX6.out.cell 11
            have k12 : _ = some (Value.int .i64 x.buffer) := HX6.out.cell 12
            have k13 : _ = some (Value.int .i64 x.workers) := HX6.out.cell 13
            obtain ⟨i0, hi0, hj0, hj1, hj2⟩ := info_partsC infoC
            have HI : Hid (Try.prog.info? 28 = some i0 ∧ i0.zero = some zc ∧ i0.size = 14 ∧ i0.bytes = 112) := ⟨hi0, hj0, hj1, hj2⟩
            clear hi0 hj0 hj1 hj2
            obtain ⟨a7, c7, rfl⟩ := own_sl H61.out
            have HRow : Hid ((w6.alloc (.cells (ccells x) 28)).ownsRow (w.heap.size + 1) 28 14 (.slice a7 L.length c7) L.length (ccl L)) := Cl.below H61.out (Below.alloc (Below.refl _ _) (Nat.le_refl _) _)
            have HSz : Hid (w.heap.size + 1 ≤ w6.heap.size) := H62.out.lt
            go_wp2_with (at_builtin; refine wpList_append_own_at _ rfl _ _ 30 rfl (w.heap.size + 1) 28 i0 zc 14 112 Try.underlying30 HI.out.1 HI.out.2.1 HI.out.2.2.1 HI.out.2.2.2 rfl (by decide) _ _ _ rfl HRow.out ⟨w6.heap.size, 0, none⟩ 1 1 (ccells x).toList rfl rfl (cells_new w6 _ _) (by simp [Value.oneCell']) (by simp only [maxLen]; omega) (by omega) (by have := HSz.out; simp; omega) ?_; intro v8 w8 h8 g8 _ _)
            go_roundw
            case rel =>
              obtain ⟨y1, y2, y3⟩ := HAp.out v8 w6 w8 H61.out H62.out H63.out h8 g8
              exact ⟨1, by omega, by go_num, y1, y2, y3⟩
            case measure => simp [intOf]
          · have k0 : w4.cell? ⟨w.heap.size, 1, none⟩ = some (.int .i64 c.surv) := H42.out.cell 1
            have k1 : w4.cell? ⟨A, 1, none⟩ = some (.int .i64 c.surv) := HX4.out.cell 1
            have k2 : w4.frozen? ⟨A, 1, none⟩ = false := Kg.heap_frozen HX4.out.at_ _
            obtain ⟨y, hy⟩ : ∃ y, y = tby k (tst c 1) := ⟨_, rfl⟩
            obtain ⟨p1, p2, p3, p4⟩ := FIN.out c.surv y rfl hy
            have hm : sg * qt c.surv = y := (HSG.out _).trans hy.symm
            have q := (r21quarter_any c.surv p3 p4 w4.drew).mono fun e w' (h : _ ∧ w4.drew = w') => (⟨h.1, h.2.symm⟩ : e = _ ∧ w' = w4.drew)
            have HT' : Hid (∀ w6, w6 = (w4.setCell ⟨A, 1, none⟩ (.int .i64 (c.surv + y))).drew → _) := fun w6 h => HT.out w6 (c.surv + y) (by rw [hy]; rfl) (.inr h)
            have Hy : Hid _ := hy
            clear hy HT FIN HSG
            go_upto_region 15 with fail
            refine Kg.quiet_tail 9 Kg.mixed (by kernel_rfl) ?_
            simp only [List.take_succ_cons, List.take_zero, List.drop_succ_cons, List.drop_zero]
            repeat (go_big_quiet_step (exact q _))
            refine wpQuiet_nil ?_
            go_upto_region 24 with fail
            obtain ⟨g6, g1, g2, g3⟩ := HT'.out _ rfl
            generalize (w4.setCell ⟨A, 1, none⟩ (.int .i64 (c.surv + y))).drew = w6 at *
            have HX6 : Hid (Cfd w6 A x) := g6
            have H61 : Hid (Cl w6 (w.heap.size + 1) u3 L) := g1
            have H62 : Hid (Cfd w6 w.heap.size c) := g2
            have H63 : Hid (Below w.heap.size w w6) := g3
            clear g6 g1 g2 g3 HT' k0 k1 k2 q hm p1 p2 p3 p4
            have k0 : _ = some (Value.int .i64 x.eden) := HX6.out.cell 0
            have k1 : _ = some (Value.int .i64 x.surv) := HX6.out.cell 1
            have k2 : _ = some (Value.int .i64 x.ten) := HX6.out.cell 2
            have k3 : _ = some (Value.int .i64 x.large) := HX6.out.cell 3
            have k4 : _ = some (Value.int .i64 x.floor) := HX6.out.cell 4
            have k5 : _ = some (Value.int .i64 x.num) := HX6.out.cell 5
            have k6 : _ = some (Value.int .i64 x.den) := HX6.out.cell 6
            have k7 : _ = some (Value.int .i64 x.target) := HX6.out.cell 7
            have k8 : _ = some (Value.int .i64 x.maxAge) := HX6.out.cell 8
            have k9 : _ = some (Value.int .i64 x.threads) := HX6.out.cell 9
            have k10 : _ = some (Value.int .i64 x.slots) := HX6.out.cell 10
            have k11 : _ = some (Value.int .i64 x.handles) := HX6.out.cell 11
            have k12 : _ = some (Value.int .i64 x.buffer) := HX6.out.cell 12
            have k13 : _ = some (Value.int .i64 x.workers) := HX6.out.cell 13
            obtain ⟨i0, hi0, hj0, hj1, hj2⟩ := info_partsC infoC
            have HI : Hid (Try.prog.info? 28 = some i0 ∧ i0.zero = some zc ∧ i0.size = 14 ∧ i0.bytes = 112) := ⟨hi0, hj0, hj1, hj2⟩
            clear hi0 hj0 hj1 hj2
            obtain ⟨a7, c7, rfl⟩ := own_sl H61.out
            have HRow : Hid ((w6.alloc (.cells (ccells x) 28)).ownsRow (w.heap.size + 1) 28 14 (.slice a7 L.length c7) L.length (ccl L)) := Cl.below H61.out (Below.alloc (Below.refl _ _) (Nat.le_refl _) _)
            have HSz : Hid (w.heap.size + 1 ≤ w6.heap.size) := H62.out.lt
            go_wp2_with (at_builtin; refine wpList_append_own_at _ rfl _ _ 30 rfl (w.heap.size + 1) 28 i0 zc 14 112 Try.underlying30 HI.out.1 HI.out.2.1 HI.out.2.2.1 HI.out.2.2.2 rfl (by decide) _ _ _ rfl HRow.out ⟨w6.heap.size, 0, none⟩ 1 1 (ccells x).toList rfl rfl (cells_new w6 _ _) (by simp [Value.oneCell']) (by simp only [maxLen]; omega) (by omega) (by have := HSz.out; simp; omega) ?_; intro v8 w8 h8 g8 _ _)
            go_roundw
            case rel =>
              obtain ⟨y1, y2, y3⟩ := HAp.out v8 w6 w8 H61.out H62.out H63.out h8 g8
              exact ⟨2, by omega, by go_num, y1, y2, y3⟩
            case measure => simp [intOf]
          · have k0 : w4.cell? ⟨w.heap.size, 3, none⟩ = some (.int .i64 c.large) := H42.out.cell 3
            have k1 : w4.cell? ⟨A, 3, none⟩ = some (.int .i64 c.large) := HX4.out.cell 3
            have k2 : w4.frozen? ⟨A, 3, none⟩ = false := Kg.heap_frozen HX4.out.at_ _
            obtain ⟨y, hy⟩ : ∃ y, y = tby k (tst c 2) := ⟨_, rfl⟩
            obtain ⟨p1, p2, p3, p4⟩ := FIN.out c.large y rfl hy
            have hm : sg * qt c.large = y := (HSG.out _).trans hy.symm
            have q := (r21quarter_any c.large p3 p4 w4.drew).mono fun e w' (h : _ ∧ w4.drew = w') => (⟨h.1, h.2.symm⟩ : e = _ ∧ w' = w4.drew)
            have HT' : Hid (∀ w6, w6 = (w4.setCell ⟨A, 3, none⟩ (.int .i64 (c.large + y))).drew → _) := fun w6 h => HT.out w6 (c.large + y) (by rw [hy]; rfl) (.inr h)
            have Hy : Hid _ := hy
            clear hy HT FIN HSG
            go_upto_region 17 with fail
            refine Kg.quiet_tail 9 Kg.mixed (by kernel_rfl) ?_
            simp only [List.take_succ_cons, List.take_zero, List.drop_succ_cons, List.drop_zero]
            repeat (go_big_quiet_step (exact q _))
            refine wpQuiet_nil ?_
            go_upto_region 24 with fail
            obtain ⟨g6, g1, g2, g3⟩ := HT'.out _ rfl
            generalize (w4.setCell ⟨A, 3, none⟩ (.int .i64 (c.large + y))).drew = w6 at *
            have HX6 : Hid (Cfd w6 A x) := g6
            have H61 : Hid (Cl w6 (w.heap.size + 1) u3 L) := g1
            have H62 : Hid (Cfd w6 w.heap.size c) := g2
            have H63 : Hid (Below w.heap.size w w6) := g3
            clear g6 g1 g2 g3 HT' k0 k1 k2 q hm p1 p2 p3 p4
            have k0 : _ = some (Value.int .i64 x.eden) := HX6.out.cell 0
            have k1 : _ = some (Value.int .i64 x.surv) := HX6.out.cell 1
            have k2 : _ = some (Value.int .i64 x.ten) := HX6.out.cell 2
            have k3 : _ = some (Value.int .i64 x.large) := HX6.out.cell 3
            have k4 : _ = some (Value.int .i64 x.floor) := HX6.out.cell 4
            have k5 : _ = some (Value.int .i64 x.num) := HX6.out.cell 5
            have k6 : _ = some (Value.int .i64 x.den) := HX6.out.cell 6
            have k7 : _ = some (Value.int .i64 x.target) := HX6.out.cell 7
            have k8 : _ = some (Value.int .i64 x.maxAge) := HX6.out.cell 8
            have k9 : _ = some (Value.int .i64 x.threads) := HX6.out.cell 9
            have k10 : _ = some (Value.int .i64 x.slots) := HX6.out.cell 10
            have k11 : _ = some (Value.int .i64 x.handles) := HX6.out.cell 11
            have k12 : _ = some (Value.int .i64 x.buffer) := HX6.out.cell 12
            have k13 : _ = some (Value.int .i64 x.workers) := HX6.out.cell 13
            obtain ⟨i0, hi0, hj0, hj1, hj2⟩ := info_partsC infoC
            have HI : Hid (Try.prog.info? 28 = some i0 ∧ i0.zero = some zc ∧ i0.size = 14 ∧ i0.bytes = 112) := ⟨hi0, hj0, hj1, hj2⟩
            clear hi0 hj0 hj1 hj2
            obtain ⟨a7, c7, rfl⟩ := own_sl H61.out
            have HRow : Hid ((w6.alloc (.cells (ccells x) 28)).ownsRow (w.heap.size + 1) 28 14 (.slice a7 L.length c7) L.length (ccl L)) := Cl.below H61.out (Below.alloc (Below.refl _ _) (Nat.le_refl _) _)
            have HSz : Hid (w.heap.size + 1 ≤ w6.heap.size) := H62.out.lt
            go_wp2_with (at_builtin; refine wpList_append_own_at _ rfl _ _ 30 rfl (w.heap.size + 1) 28 i0 zc 14 112 Try.underlying30 HI.out.1 HI.out.2.1 HI.out.2.2.1 HI.out.2.2.2 rfl (by decide) _ _ _ rfl HRow.out ⟨w6.heap.size, 0, none⟩ 1 1 (ccells x).toList rfl rfl (cells_new w6 _ _) (by simp [Value.oneCell']) (by simp only [maxLen]; omega) (by omega) (by have := HSz.out; simp; omega) ?_; intro v8 w8 h8 g8 _ _)
            go_roundw
            case rel =>
              obtain ⟨y1, y2, y3⟩ := HAp.out v8 w6 w8 H61.out H62.out H63.out h8 g8
              exact ⟨3, by omega, by go_num, y1, y2, y3⟩
            case measure => simp [intOf]
          · have k0 : w4.cell? ⟨w.heap.size, 5, none⟩ = some (.int .i64 c.num) := H42.out.cell 5
            have k1 : w4.cell? ⟨A, 5, none⟩ = some (.int .i64 c.num) := HX4.out.cell 5
            have k2 : w4.frozen? ⟨A, 5, none⟩ = false := Kg.heap_frozen HX4.out.at_ _
            obtain ⟨y, hy⟩ : ∃ y, y = tby k (tst c 3) := ⟨_, rfl⟩
            obtain ⟨p1, p2, p3, p4⟩ := FIN.out c.num y rfl hy
            have HT' : Hid (∀ w6, w6 = w4.setCell ⟨A, 5, none⟩ (.int .i64 (c.num + sg)) → _) := fun w6 h => HT.out w6 (c.num + sg) (by rw [← HSG.out]; show _ = c.num + sg * 1; omega) (.inl h)
            have Hy : Hid _ := hy
            clear hy HT FIN HSG
            go_upto_region 24 with fail
            obtain ⟨g6, g1, g2, g3⟩ := HT'.out _ rfl
            generalize (w4.setCell ⟨A, 5, none⟩ (.int .i64 (c.num + sg))) = w6 at *
            have HX6 : Hid (Cfd w6 A x) := g6
            have H61 : Hid (Cl w6 (w.heap.size + 1) u3 L) := g1
            have H62 : Hid (Cfd w6 w.heap.size c) := g2
            have H63 : Hid (Below w.heap.size w w6) := g3
            clear g6 g1 g2 g3 HT' k0 k1 k2 p1 p2 p3 p4
            have k0 : _ = some (Value.int .i64 x.eden) := HX6.out.cell 0
            have k1 : _ = some (Value.int .i64 x.surv) := HX6.out.cell 1
            have k2 : _ = some (Value.int .i64 x.ten) := HX6.out.cell 2
            have k3 : _ = some (Value.int .i64 x.large) := HX6.out.cell 3
            have k4 : _ = some (Value.int .i64 x.floor) := HX6.out.cell 4
            have k5 : _ = some (Value.int .i64 x.num) := HX6.out.cell 5
            have k6 : _ = some (Value.int .i64 x.den) := HX6.out.cell 6
            have k7 : _ = some (Value.int .i64 x.target) := HX6.out.cell 7
            have k8 : _ = some (Value.int .i64 x.maxAge) := HX6.out.cell 8
            have k9 : _ = some (Value.int .i64 x.threads) := HX6.out.cell 9
            have k10 : _ = some (Value.int .i64 x.slots) := HX6.out.cell 10
            have k11 : _ = some (Value.int .i64 x.handles) := HX6.out.cell 11
            have k12 : _ = some (Value.int .i64 x.buffer) := HX6.out.cell 12
            have k13 : _ = some (Value.int .i64 x.workers) := HX6.out.cell 13
            obtain ⟨i0, hi0, hj0, hj1, hj2⟩ := info_partsC infoC
            have HI : Hid (Try.prog.info? 28 = some i0 ∧ i0.zero = some zc ∧ i0.size = 14 ∧ i0.bytes = 112) := ⟨hi0, hj0, hj1, hj2⟩
            clear hi0 hj0 hj1 hj2
            obtain ⟨a7, c7, rfl⟩ := own_sl H61.out
            have HRow : Hid ((w6.alloc (.cells (ccells x) 28)).ownsRow (w.heap.size + 1) 28 14 (.slice a7 L.length c7) L.length (ccl L)) := Cl.below H61.out (Below.alloc (Below.refl _ _) (Nat.le_refl _) _)
            have HSz : Hid (w.heap.size + 1 ≤ w6.heap.size) := H62.out.lt
            go_wp2_with (at_builtin; refine wpList_append_own_at _ rfl _ _ 30 rfl (w.heap.size + 1) 28 i0 zc 14 112 Try.underlying30 HI.out.1 HI.out.2.1 HI.out.2.2.1 HI.out.2.2.2 rfl (by decide) _ _ _ rfl HRow.out ⟨w6.heap.size, 0, none⟩ 1 1 (ccells x).toList rfl rfl (cells_new w6 _ _) (by simp [Value.oneCell']) (by simp only [maxLen]; omega) (by omega) (by have := HSz.out; simp; omega) ?_; intro v8 w8 h8 g8 _ _)
            go_roundw
            case rel =>
              obtain ⟨y1, y2, y3⟩ := HAp.out v8 w6 w8 H61.out H62.out H63.out h8 g8
              exact ⟨4, by omega, by go_num, y1, y2, y3⟩
            case measure => simp [intOf]
          · have k0 : w4.cell? ⟨w.heap.size, 7, none⟩ = some (.int .i64 c.target) := H42.out.cell 7
            have k1 : w4.cell? ⟨A, 7, none⟩ = some (.int .i64 c.target) := HX4.out.cell 7
            have k2 : w4.frozen? ⟨A, 7, none⟩ = false := Kg.heap_frozen HX4.out.at_ _
            obtain ⟨y, hy⟩ : ∃ y, y = tby k (tst c 4) := ⟨_, rfl⟩
            obtain ⟨p1, p2, p3, p4⟩ := FIN.out c.target y rfl hy
            have HT' : Hid (∀ w6, w6 = w4.setCell ⟨A, 7, none⟩ (.int .i64 (c.target + 10 * sg)) → _) := fun w6 h => HT.out w6 (c.target + 10 * sg) (by rw [← HSG.out]; show _ = c.target + sg * 10; omega) (.inl h)
            have Hy : Hid _ := hy
            clear hy HT FIN HSG
            go_upto_region 24 with fail
            obtain ⟨g6, g1, g2, g3⟩ := HT'.out _ rfl
            generalize (w4.setCell ⟨A, 7, none⟩ (.int .i64 (c.target + 10 * sg))) = w6 at *
            have HX6 : Hid (Cfd w6 A x) := g6
            have H61 : Hid (Cl w6 (w.heap.size + 1) u3 L) := g1
            have H62 : Hid (Cfd w6 w.heap.size c) := g2
            have H63 : Hid (Below w.heap.size w w6) := g3
            clear g6 g1 g2 g3 HT' k0 k1 k2 p1 p2 p3 p4
            have k0 : _ = some (Value.int .i64 x.eden) := HX6.out.cell 0
            have k1 : _ = some (Value.int .i64 x.surv) := HX6.out.cell 1
            have k2 : _ = some (Value.int .i64 x.ten) := HX6.out.cell 2
            have k3 : _ = some (Value.int .i64 x.large) := HX6.out.cell 3
            have k4 : _ = some (Value.int .i64 x.floor) := HX6.out.cell 4
            have k5 : _ = some (Value.int .i64 x.num) := HX6.out.cell 5
            have k6 : _ = some (Value.int .i64 x.den) := HX6.out.cell 6
            have k7 : _ = some (Value.int .i64 x.target) := HX6.out.cell 7
            have k8 : _ = some (Value.int .i64 x.maxAge) := HX6.out.cell 8
            have k9 : _ = some (Value.int .i64 x.threads) := HX6.out.cell 9
            have k10 : _ = some (Value.int .i64 x.slots) := HX6.out.cell 10
            have k11 : _ = some (Value.int .i64 x.handles) := HX6.out.cell 11
            have k12 : _ = some (Value.int .i64 x.buffer) := HX6.out.cell 12
            have k13 : _ = some (Value.int .i64 x.workers) := HX6.out.cell 13
            obtain ⟨i0, hi0, hj0, hj1, hj2⟩ := info_partsC infoC
            have HI : Hid (Try.prog.info? 28 = some i0 ∧ i0.zero = some zc ∧ i0.size = 14 ∧ i0.bytes = 112) := ⟨hi0, hj0, hj1, hj2⟩
            clear hi0 hj0 hj1 hj2
            obtain ⟨a7, c7, rfl⟩ := own_sl H61.out
            have HRow : Hid ((w6.alloc (.cells (ccells x) 28)).ownsRow (w.heap.size + 1) 28 14 (.slice a7 L.length c7) L.length (ccl L)) := Cl.below H61.out (Below.alloc (Below.refl _ _) (Nat.le_refl _) _)
            have HSz : Hid (w.heap.size + 1 ≤ w6.heap.size) := H62.out.lt
            go_wp2_with (at_builtin; refine wpList_append_own_at _ rfl _ _ 30 rfl (w.heap.size + 1) 28 i0 zc 14 112 Try.underlying30 HI.out.1 HI.out.2.1 HI.out.2.2.1 HI.out.2.2.2 rfl (by decide) _ _ _ rfl HRow.out ⟨w6.heap.size, 0, none⟩ 1 1 (ccells x).toList rfl rfl (cells_new w6 _ _) (by simp [Value.oneCell']) (by simp only [maxLen]; omega) (by omega) (by have := HSz.out; simp; omega) ?_; intro v8 w8 h8 g8 _ _)
            go_roundw
            case rel =>
              obtain ⟨y1, y2, y3⟩ := HAp.out v8 w6 w8 H61.out H62.out H63.out h8 g8
              exact ⟨5, by omega, by go_num, y1, y2, y3⟩
            case measure => simp [intOf]
          · have k0 : w4.cell? ⟨w.heap.size, 8, none⟩ = some (.int .i64 c.maxAge) := H42.out.cell 8
            have k1 : w4.cell? ⟨A, 8, none⟩ = some (.int .i64 c.maxAge) := HX4.out.cell 8
            have k2 : w4.frozen? ⟨A, 8, none⟩ = false := Kg.heap_frozen HX4.out.at_ _
            obtain ⟨y, hy⟩ : ∃ y, y = tby k (tst c 5) := ⟨_, rfl⟩
            obtain ⟨p1, p2, p3, p4⟩ := FIN.out c.maxAge y rfl hy
            have HT' : Hid (∀ w6, w6 = w4.setCell ⟨A, 8, none⟩ (.int .i64 (c.maxAge + sg)) → _) := fun w6 h => HT.out w6 (c.maxAge + sg) (by rw [← HSG.out]; show _ = c.maxAge + sg * 1; omega) (.inl h)
            have Hy : Hid _ := hy
            clear hy HT FIN HSG
            go_upto_region 24 with fail
            obtain ⟨g6, g1, g2, g3⟩ := HT'.out _ rfl
            generalize (w4.setCell ⟨A, 8, none⟩ (.int .i64 (c.maxAge + sg))) = w6 at *
            have HX6 : Hid (Cfd w6 A x) := g6
            have H61 : Hid (Cl w6 (w.heap.size + 1) u3 L) := g1
            have H62 : Hid (Cfd w6 w.heap.size c) := g2
            have H63 : Hid (Below w.heap.size w w6) := g3
            clear g6 g1 g2 g3 HT' k0 k1 k2 p1 p2 p3 p4
            have k0 : _ = some (Value.int .i64 x.eden) := HX6.out.cell 0
            have k1 : _ = some (Value.int .i64 x.surv) := HX6.out.cell 1
            have k2 : _ = some (Value.int .i64 x.ten) := HX6.out.cell 2
            have k3 : _ = some (Value.int .i64 x.large) := HX6.out.cell 3
            have k4 : _ = some (Value.int .i64 x.floor) := HX6.out.cell 4
            have k5 : _ = some (Value.int .i64 x.num) := HX6.out.cell 5
            have k6 : _ = some (Value.int .i64 x.den) := HX6.out.cell 6
            have k7 : _ = some (Value.int .i64 x.target) := HX6.out.cell 7
            have k8 : _ = some (Value.int .i64 x.maxAge) := HX6.out.cell 8
            have k9 : _ = some (Value.int .i64 x.threads) := HX6.out.cell 9
            have k10 : _ = some (Value.int .i64 x.slots) := HX6.out.cell 10
            have k11 : _ = some (Value.int .i64 x.handles) := HX6.out.cell 11
            have k12 : _ = some (Value.int .i64 x.buffer) := HX6.out.cell 12
            have k13 : _ = some (Value.int .i64 x.workers) := HX6.out.cell 13
            obtain ⟨i0, hi0, hj0, hj1, hj2⟩ := info_partsC infoC
            have HI : Hid (Try.prog.info? 28 = some i0 ∧ i0.zero = some zc ∧ i0.size = 14 ∧ i0.bytes = 112) := ⟨hi0, hj0, hj1, hj2⟩
            clear hi0 hj0 hj1 hj2
            obtain ⟨a7, c7, rfl⟩ := own_sl H61.out
            have HRow : Hid ((w6.alloc (.cells (ccells x) 28)).ownsRow (w.heap.size + 1) 28 14 (.slice a7 L.length c7) L.length (ccl L)) := Cl.below H61.out (Below.alloc (Below.refl _ _) (Nat.le_refl _) _)
            have HSz : Hid (w.heap.size + 1 ≤ w6.heap.size) := H62.out.lt
            go_wp2_with (at_builtin; refine wpList_append_own_at _ rfl _ _ 30 rfl (w.heap.size + 1) 28 i0 zc 14 112 Try.underlying30 HI.out.1 HI.out.2.1 HI.out.2.2.1 HI.out.2.2.2 rfl (by decide) _ _ _ rfl HRow.out ⟨w6.heap.size, 0, none⟩ 1 1 (ccells x).toList rfl rfl (cells_new w6 _ _) (by simp [Value.oneCell']) (by simp only [maxLen]; omega) (by omega) (by have := HSz.out; simp; omega) ?_; intro v8 w8 h8 g8 _ _)
            go_roundw
            case rel =>
              obtain ⟨y1, y2, y3⟩ := HAp.out v8 w6 w8 H61.out H62.out H63.out h8 g8
              exact ⟨6, by omega, by go_num, y1, y2, y3⟩
            case measure => simp [intOf]
        · have e : f = 6 := by omega
          subst e
          have Hc1 : Hid (Cl _ (w.heap.size + 1) u3 (alln c (6 * k + 6))) := r1
          have Hc2 : Hid _ := r2
          have Hc3 : Hid _ := r3
          clear r1 r2 r3
          go_wp2
          go_roundw
          case rel => exact ⟨k + 1, by omega, by rw [HG.out]; go_num, Hc1.out, Hc2.out, Hc3.out⟩
          case measure => rw [HG.out]; simp [intOf]; omega
    · have e : k = 2 := by omega
      subst e
      rw [show (2 * ((2 : Nat) : Int) - 1) = 3 by decide]
      have Hr1 : Hid (Cl _ (w.heap.size + 1) u3 (alln c 12)) := r1
      have Hr2 : Hid _ := r2
      have Hr3 : Hid _ := r3
      clear r1 r2 r3
      generalize wr = w3 at *
      obtain ⟨q0, c0, rfl, hq0, -⟩ := Cl.read Hr1.out (alln_at c 12 0 (by omega))
      have hlen : (alln c 12).length = 12 := alln_len c 12
      rw [hlen] at Hr1 ⊢
      have Hq0 : Hid (q0 < w3.heap.size) := hq0
      have Hrd : Hid (∀ w7, Below w3.heap.size w3 w7 → ∀ i, i < 12 → ∀ j, j < 14 → w7.cell? ⟨q0, i * 14 + j, none⟩ = (ccells (nbr c (i % 6) (i / 6)))[j]?) := fun w7 b7 i hi j hj => by
        obtain ⟨q1, c1, e1, -, h2⟩ := Cl.read (l := alln c 12) Hr1.out (alln_at c 12 i hi)
        cases e1
        rw [b7.cell (p := ⟨q0, i * 14 + j, none⟩) Hq0.out]
        exact h2 j hj
      clear hq0 hlen
      go_wp2
      go_loopw [7, 8] (fun v i w7 => ∃ f : Nat, f ≤ 6 ∧ i = .int .i64 f ∧ Cl w7 w3.heap.size v (near c (2 * f)) ∧ Below w3.heap.size w3 w7) (fun _ i _ => 6 - (intOf i).toNat)
      case atStart => exact ⟨0, by omega, rfl, World.ownsRow_nil _ _ _ _, Below.refl _ _⟩
      case round =>
        obtain ⟨f, hf, rfl, r1, r2⟩ := hrel
        by_cases hlf : f < 6
        · have Hf1 : Hid _ := r1
          have Hf2 : Hid _ := r2
          clear r1 r2
          have hfI : (f : Int) < 6 := by omega
          go_wp2
          go_loopw [7, 9] (fun v i w7 => ∃ k : Nat, k ≤ 2 ∧ i = .int .i64 k ∧ Cl w7 w3.heap.size v (near c (2 * f + k)) ∧ Below w3.heap.size w3 w7) (fun _ i _ => 2 - (intOf i).toNat)
          case atStart => exact ⟨0, by omega, rfl, Hf1.out, Hf2.out⟩
          case round =>
            obtain ⟨k, hk, rfl, r1, r2⟩ := hrel
            by_cases hlk : k < 2
            · have Hk1 : Hid (Cl wr w3.heap.size u7 (near c (2 * f + k))) := r1
              have Hk2 : Hid (Below w3.heap.size w3 wr) := r2
              clear r1 r2
              have hkI : (k : Int) < 2 := by omega
              obtain ⟨m, hm⟩ : ∃ m : Nat, m = f + 6 * k := ⟨_, rfl⟩
              have hmI : (f : Int) + 6 * (k : Int) = (m : Int) := by omega
              have hm12 : m < 12 := by omega
              obtain ⟨x, hx⟩ : ∃ x, x = nbr c f k := ⟨_, rfl⟩
              have Hrx : Hid (∀ j, j < 14 → wr.cell? ⟨q0, m * 14 + j, none⟩ = (ccells x)[j]?) := fun j hj => by
                have h := Hrd.out wr Hk2.out m hm12 j hj
                rw [show m % 6 = f by omega, show m / 6 = k by omega, ← hx] at h
                exact h
              have HN : Hid (near c (2 * f + (k + 1)) = near c (2 * f + k) ++ (if x.Okd then [x] else [])) := by
                show _ = _
                rw [hx]
                exact near_step c f k hlk
              have k0 : wr.cell? ⟨q0, m * 14, none⟩ = some (.int .i64 x.eden) := Hrx.out 0 (by decide)
              have k1 : wr.cell? ⟨q0, m * 14 + 1, none⟩ = some (.int .i64 x.surv) := Hrx.out 1 (by decide)
              have k2 : wr.cell? ⟨q0, m * 14 + 2, none⟩ = some (.int .i64 x.ten) := Hrx.out 2 (by decide)
              have k3 : wr.cell? ⟨q0, m * 14 + 3, none⟩ = some (.int .i64 x.large) := Hrx.out 3 (by decide)
              have k4 : wr.cell? ⟨q0, m * 14 + 4, none⟩ = some (.int .i64 x.floor) := Hrx.out 4 (by decide)
              have k5 : wr.cell? ⟨q0, m * 14 + 5, none⟩ = some (.int .i64 x.num) := Hrx.out 5 (by decide)
              have k6 : wr.cell? ⟨q0, m * 14 + 6, none⟩ = some (.int .i64 x.den) := Hrx.out 6 (by decide)
              have k7 : wr.cell? ⟨q0, m * 14 + 7, none⟩ = some (.int .i64 x.target) := Hrx.out 7 (by decide)
              have k8 : wr.cell? ⟨q0, m * 14 + 8, none⟩ = some (.int .i64 x.maxAge) := Hrx.out 8 (by decide)
              have k9 : wr.cell? ⟨q0, m * 14 + 9, none⟩ = some (.int .i64 x.threads) := Hrx.out 9 (by decide)
              have k10 : wr.cell? ⟨q0, m * 14 + 10, none⟩ = some (.int .i64 x.slots) := Hrx.out 10 (by decide)
              have k11 : wr.cell? ⟨q0, m * 14 + 11, none⟩ = some (.int .i64 x.handles) := Hrx.out 11 (by decide)
              have k12 : wr.cell? ⟨q0, m * 14 + 12, none⟩ = some (.int .i64 x.buffer) := Hrx.out 12 (by decide)
              have k13 : wr.cell? ⟨q0, m * 14 + 13, none⟩ = some (.int .i64 x.workers) := Hrx.out 13 (by decide)
              clear hx hm
              go_upto_region 33 with fail
              obtain ⟨A, hA⟩ : ∃ x, x = wr.heap.size := ⟨_, rfl⟩
              obtain ⟨w4, hw4⟩ : ∃ y, y = wr.alloc (.cells (ccells x) 28) := ⟨_, rfl⟩
              have HX4 : Hid (Cfd w4 A x) := by rw [hw4, hA]; exact Cfd.new wr x
              have h4 : Below wr.heap.size wr w4 := by rw [hw4]; exact Below.alloc (Below.refl _ _) (Nat.le_refl _) _
              have H41 : Hid (Cl w4 w3.heap.size u7 (near c (2 * f + k))) := Cl.below Hk1.out h4
              have H43 : Hid (Below w3.heap.size w3 w4) := Hk2.out.trans (h4.mono Hk2.out.size)
              rw [← hw4, ← hA]
              clear h4 hw4 hA Hk1 Hk2 Hrx k0 k1 k2 k3 k4 k5 k6 k7 k8 k9 k10 k11 k12 k13
              have k0 : _ = some (Value.int .i64 x.eden) := HX4.out.cell 0
              have k1 : _ = some (Value.int .i64 x.surv) := HX4.out.cell 1
              have k2 : _ = some (Value.int .i64 x.ten) := HX4.out.cell 2
              have k3 : _ = some (Value.int .i64 x.large) := HX4.out.cell 3
              have k4 : _ = some (Value.int .i64 x.floor) := HX4.out.cell 4
              have k5 : _ = some (Value.int .i64 x.num) := HX4.out.cell 5
              have k6 : _ = some (Value.int .i64 x.den) := HX4.out.cell 6
              have k7 : _ = some (Value.int .i64 x.target) := HX4.out.cell 7
              have k8 : _ = some (Value.int .i64 x.maxAge) := HX4.out.cell 8
              have k9 : _ = some (Value.int .i64 x.threads) := HX4.out.cell 9
              have k10 : _ = some (Value.int .i64 x.slots) := HX4.out.cell 10
              have k11 : _ = some (Value.int .i64 x.handles) := HX4.out.cell 11
              have k12 : _ = some (Value.int .i64 x.buffer) := HX4.out.cell 12
              have k13 : _ = some (Value.int .i64 x.workers) := HX4.out.cell 13
              have q := rvalid_any x w4
              by_cases hok : x.Okd
              · rw [decide_eq_true hok] at q
                rw [if_pos hok] at HN
                go_wp2_with fail
                refine q.mono ?_
                rintro e w7 ⟨rfl, b7⟩
                have HX7 : Hid (Cfd w7 A x) := HX4.out.below b7
                have H71 : Hid (Cl w7 w3.heap.size u7 (near c (2 * f + k))) := Cl.below H41.out b7
                have H73 : Hid (Below w3.heap.size w3 w7) := H43.out.trans (b7.mono H43.out.size)
                clear q b7 HX4 H41 H43 k0 k1 k2 k3 k4 k5 k6 k7 k8 k9 k10 k11 k12 k13
                have k0 : _ = some (Value.int .i64 x.eden) := HX7.out.cell 0
                have k1 : _ = some (Value.int .i64 x.surv) := HX7.out.cell 1
                have k2 : _ = some (Value.int .i64 x.ten) := HX7.out.cell 2
                have k3 : _ = some (Value.int .i64 x.large) := HX7.out.cell 3
                have k4 : _ = some (Value.int .i64 x.floor) := HX7.out.cell 4
                have k5 : _ = some (Value.int .i64 x.num) := HX7.out.cell 5
                have k6 : _ = some (Value.int .i64 x.den) := HX7.out.cell 6
                have k7 : _ = some (Value.int .i64 x.target) := HX7.out.cell 7
                have k8 : _ = some (Value.int .i64 x.maxAge) := HX7.out.cell 8
                have k9 : _ = some (Value.int .i64 x.threads) := HX7.out.cell 9
                have k10 : _ = some (Value.int .i64 x.slots) := HX7.out.cell 10
                have k11 : _ = some (Value.int .i64 x.handles) := HX7.out.cell 11
                have k12 : _ = some (Value.int .i64 x.buffer) := HX7.out.cell 12
                have k13 : _ = some (Value.int .i64 x.workers) := HX7.out.cell 13
                obtain ⟨i0, hi0, hj0, hj1, hj2⟩ := info_partsC infoC
                have HI : Hid (Try.prog.info? 28 = some i0 ∧ i0.zero = some zc ∧ i0.size = 14 ∧ i0.bytes = 112) := ⟨hi0, hj0, hj1, hj2⟩
                clear hi0 hj0 hj1 hj2
                have hln := near_len c (2 * f + k)
                have hlk2 : 2 * f + k ≤ 12 := by omega
                obtain ⟨a7, c7, rfl⟩ := own_sl H71.out
                have HRow : Hid ((w7.alloc (.cells (ccells x) 28)).ownsRow w3.heap.size 28 14 (.slice a7 (near c (2 * f + k)).length c7) (near c (2 * f + k)).length (ccl (near c (2 * f + k)))) := Cl.below H71.out (Below.alloc (Below.refl _ _) (Nat.le_refl _) _)
                have HSz : Hid (w3.heap.size ≤ w7.heap.size) := H73.out.size
                go_wp2_with (at_builtin; refine wpList_append_own_at _ rfl _ _ 30 rfl w3.heap.size 28 i0 zc 14 112 Try.underlying30 HI.out.1 HI.out.2.1 HI.out.2.2.1 HI.out.2.2.2 rfl (by decide) _ _ _ rfl HRow.out ⟨w7.heap.size, 0, none⟩ 1 1 (ccells x).toList rfl rfl (cells_new w7 _ _) (by simp [Value.oneCell']) (by simp only [maxLen]; omega) (by omega) (by have := HSz.out; simp; omega) ?_; intro v8 w8 h8 g8 _ _)
                go_roundw
                case rel =>
                  obtain ⟨y1, y2, y3⟩ := Cl.snoc H71.out h8 g8 HSz.out
                  exact ⟨k + 1, by omega, by go_num, by rw [HN.out]; exact y1, H73.out.trans y3⟩
                case measure => simp [intOf]; omega
              · rw [decide_eq_false hok] at q
                rw [if_neg hok, List.append_nil] at HN
                go_wp2_with fail
                refine q.mono ?_
                rintro e w7 ⟨rfl, b7⟩
                have H71 : Hid (Cl w7 w3.heap.size u7 (near c (2 * f + k))) := Cl.below H41.out b7
                have H73 : Hid (Below w3.heap.size w3 w7) := H43.out.trans (b7.mono H43.out.size)
                clear q b7 HX4 H41 H43 k0 k1 k2 k3 k4 k5 k6 k7 k8 k9 k10 k11 k12 k13
                go_wp2
                go_roundw
                case rel => exact ⟨k + 1, by omega, by go_num, by rw [HN.out]; exact H71.out, H73.out⟩
                case measure => simp [intOf]; omega
            · have e : k = 2 := by omega
              subst e
              have Hk1 : Hid _ := r1
              have Hk2 : Hid _ := r2
              clear r1 r2
              go_wp2
              go_roundw
              case rel => exact ⟨f + 1, by omega, by go_num, Hk1.out, Hk2.out⟩
              case measure => simp [intOf]; omega
        · have e : f = 6 := by omega
          subst e
          have Hf1 : Hid _ := r1
          have Hf2 : Hid _ := r2
          clear r1 r2
          go_wp2
          go_ret
          exact ⟨_, rfl, Kg.row_base Hf1.out Hr3.out.size, Hr3.out.trans (Hf2.out.mono Hr3.out.size)⟩

end Go.Proofs.Ytlbmlnmgbjhljaa
