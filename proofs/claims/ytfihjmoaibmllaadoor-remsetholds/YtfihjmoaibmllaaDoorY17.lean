/-
  slices.Concat of two lists; Prune.
-/
import Derived.Test.YtfihjmoaibmllaaDoorY16
import Derived.Deep.Upon
set_option linter.unusedVariables false
set_option maxRecDepth 20000
namespace Go.Proofs.YtfihjmoaibmllaaDoor
open Go.RowKit Go.Shelf

def two {α : Type} (a b : α) (k : Nat) : α := if k = 0 then a else b
def upto (X : Nat → List Int) (k : Nat) : List Int := ((List.range k).map X).flatten

theorem upto_succ (X : Nat → List Int) (k : Nat) : upto X (k + 1) = upto X k ++ X k := by simp [upto, List.range_succ]

theorem upto_two (xs ys : List Int) : upto (two xs ys) 2 = xs ++ ys := by simp [upto, two, List.range_succ]

set_option maxHeartbeats 4000000 in
theorem concat_any (B cp : Nat) (V : Nat → Value) (X : Nat → List Int) (w : World) (hB : ∀ k, k < 2 → w.cell? ⟨B, k, none⟩ = some (V k)) (hX : ∀ k, k < 2 → Lrd w.heap.size w (V k) .i64 (X k)) (hl : ∀ k, k < 2 → (X k).length ≤ 100000) :
    Calls Tryd.prog 47 #[.slice (some ⟨B, 0, none⟩) 2 cp] w fun e w' => ∃ v, e = .returned v ∧ w'.ownsRow 0 3 1 v (upto X 2).length (ints (upto X 2)) ∧ Below w.heap.size w w' := by
  have HB : Hid (∀ k, k < 2 → w.cell? ⟨B, k, none⟩ = some (V k)) := hB
  have HX : Hid (∀ k, k < 2 → Lrd w.heap.size w (V k) .i64 (X k)) := hX
  have HL : Hid (∀ k, k < 2 → (X k).length ≤ 100000) := hl
  have HU : Hid (∀ k, k ≤ 2 → (upto X k).length ≤ k * 100000) := fun k hk => by
    induction k with
    | zero => simp [upto]
    | succ k ih =>
      rw [upto_succ, List.length_append]
      have := ih (by omega)
      have := hl k (by omega)
      omega
  obtain ⟨i0, hi0, hz0, hz1, hz2⟩ := info_parts Tryd.infoInt
  have HI : Hid (Tryd.prog.info? 3 = some i0 ∧ i0.zero = some (.int .i64 0) ∧ i0.size = 1 ∧ i0.bytes = 8) := ⟨hi0, hz0, hz1, hz2⟩
  have hBlt : B < w.heap.size := World.block_lt_of_cell? _ _ (hB 0 (by decide))
  clear hi0 hz0 hz1 hz2 hB hX hl
  go_enter Tryd.func47, Tryd.ntmps47
  go_wp2
  go_loopw [3, 11] (fun v3 v11 wr => ∃ k : Nat, k ≤ 2 ∧ v11 = .int .i64 k ∧ v3 = .int .i64 (upto X k).length ∧ w = wr) (fun _ v11 _ => 2 - (intOf v11).toNat)
  case atStart => exact ⟨0, by omega, rfl, rfl, rfl⟩
  case round =>
    obtain ⟨k, hk, rfl, rfl, rfl⟩ := hrel
    by_cases hkl : k < 2
    · obtain ⟨a, cap, hv, hcap, hc⟩ := HX.out k hkl
      have cb := HB.out k hkl
      rw [hv] at cb
      have hs : ((upto X k).length : Int) + ((X k).length : Int) = ((upto X (k + 1)).length : Int) := by rw [upto_succ, List.length_append]; omega
      have h1 := HU.out k hk
      have h2 := HL.out k hkl
      have hkI : (k : Int) < 2 := by omega
      generalize (X k).length = xl at *
      generalize (upto X k).length = ul at *
      generalize hq : (upto X (k + 1)).length = ul2 at *
      have Hq : Hid ((upto X (k + 1)).length = ul2) := hq
      have Hs : Hid ((ul : Int) + xl = ul2) := hs
      clear hc hq hs hv
      go_wp2
      go_roundw
      case rel => exact ⟨k + 1, by omega, by go_num, by rw [Hq.out, ← Hs.out], trivial⟩
      case measure => simp [intOf]; omega
    · have hke : k = 2 := by omega
      subst hke
      have hgr := grow_nil (upto X 2).length (by have := HU.out 2 (by omega); omega) w
      have hul := HU.out 2 (by omega)
      go_wp2_with fail
      refine hgr.mono ?_
      rintro e w2 ⟨v, rfl, hrow, hbe⟩
      have Hrow0 : Hid (w2.ownsRow w.heap.size 3 1 v 0 []) := hrow
      obtain ⟨a, cap, rfl⟩ := own_sl hrow
      clear hgr hrow
      go_wp2
      go_loopw [6, 27] (fun v6 v27 w3 => ∃ k : Nat, k ≤ 2 ∧ v27 = .int .i64 k ∧ Hid (w3.ownsRow w.heap.size 3 1 v6 (upto X k).length (ints (upto X k))) ∧ Hid (Below w.heap.size w w3)) (fun _ v27 _ => 2 - (intOf v27).toNat)
      case atStart => exact ⟨0, by omega, rfl, Hrow0, hbe⟩
      case round =>
        obtain ⟨k, hk, rfl, Hrow, Hbe⟩ := hrel
        clear Hrow0 hbe
        by_cases hkl : k < 2
        · obtain ⟨a2, cap2, hv, hcap2, hc⟩ := HX.out k hkl
          have cb := (Hbe.out.cell (p := ⟨B, k, none⟩) hBlt).trans (HB.out k hkl)
          rw [hv] at cb
          have h1 := HU.out k hk
          have h2 := HL.out k hkl
          have hkI : (k : Int) < 2 := by omega
          obtain ⟨a6, cap6, rfl⟩ := own_sl Hrow.out
          cases a2 with
          | none =>
            have hx0 : X k = [] := by
              cases hx : X k with
              | nil => rfl
              | cons y ys =>
                obtain ⟨q, off, e, -⟩ := hc 0 y (by rw [hx]; rfl)
                cases e
            have hle : (upto X k).length ≤ cap6 := by
              rcases Hrow.out.2 with ⟨e1, e2⟩ | ⟨g, cap, cur, e1, -, -, e2, -⟩
              · simp at e1; omega
              · simp at e1
                omega
            have Hnx : Hid (upto X (k + 1) = upto X k) := by
              show _ = _
              rw [upto_succ, hx0, List.append_nil]
            rw [hx0] at cb
            have hr := run_append_nothing (P := Tryd.prog) wr 42 42 42 3 i0 Tryd.underlying42 HI.out.1 a6 (upto X k).length cap6 hle (.slice none 0 cap2) (Src.ofNil wr Tryd.underlying42 cap2)
            have cb' : wr.cell? ⟨B, k, none⟩ = some (.slice none 0 cap2) := cb
            clear cb hc hv hx0
            go_wp2_with (first | (at_builtin; refine Lib.wpList_append_run _ rfl _ _ _ _ rfl _ _ rfl rfl _ _ hr ?_) | go_in)
            go_roundw
            case rel => exact ⟨k + 1, by omega, by go_num, by rw [Hnx.out]; exact Hrow, Hbe⟩
            case measure => simp [intOf]; omega
          | some ad =>
            have Hnx : Hid (upto X (k + 1) = upto X k ++ X k) := upto_succ X k
            have Hnews : Hid (∀ j u, (ints (X k))[j]? = some u → wr.cell? (ad.add j) = some u) := fun j u hu => by
              rw [List.getElem?_map] at hu
              cases hz : (X k)[j]? with
              | none => rw [hz] at hu; simp at hu
              | some z =>
                rw [hz] at hu
                simp at hu
                obtain ⟨q, off, e1, e2, e3⟩ := hc j z hz
                simp at e1
                subst e1
                have hadd : (⟨q, off, none⟩ : Addr).add j = ⟨q, off + j, none⟩ := by unfold Addr.add; split <;> simp_all
                rw [hadd, ← hu]
                exact (Hbe.out.cell (p := ⟨q, off + j, none⟩) e2).trans e3
            clear hc hv
            go_wp2_with (first | (at_builtin; refine wpList_append_own_at _ rfl _ _ 42 rfl w.heap.size 3 i0 (.int .i64 0) 1 8 Tryd.underlying42 HI.out.1 HI.out.2.1 HI.out.2.2.1 HI.out.2.2.2 rfl (by decide) _ _ _ rfl Hrow.out ad (X k).length cap2 (ints (X k)) rfl (by simp) Hnews.out (fun u hu => by obtain ⟨z, -, rfl⟩ := List.mem_map.1 hu; rfl) (by simp [maxLen]; omega) (by omega) (Hbe.out.size) ?_; intro v' w4 hown' hgrow _ hat) | go_in)
            have Hrow4 : Hid (w4.ownsRow w.heap.size 3 1 v' (upto X (k + 1)).length (ints (upto X (k + 1)))) := by
              show w4.ownsRow w.heap.size 3 1 v' (upto X (k + 1)).length (ints (upto X (k + 1)))
              rw [Hnx.out]
              simpa [ints] using hown'
            have Hbe4 : Hid (Below w.heap.size w w4) := Hbe.out.grown hgrow Hbe.out.size (fun y hy => by
              rcases Hrow.out.2 with ⟨e1, -⟩ | ⟨g, cap, cur, e1, e2, -⟩
              · have hy' : (Value.slice a6 (upto X k).length cap6).ownBlock = some y := hy
                rw [e1] at hy'
                simp [Value.ownBlock] at hy'
              · have hy' : (Value.slice a6 (upto X k).length cap6).ownBlock = some y := hy
                rw [e1] at hy'
                simp [Value.ownBlock] at hy'
                omega)
            obtain ⟨a7, c7, hv7⟩ := own_sl hown'
            subst hv7
            clear hown' hgrow hat Hrow Hbe
            go_roundw
            case rel => exact ⟨k + 1, by omega, by go_num, Hrow4, Hbe4⟩
            case measure => simp [intOf]; omega
        · have hke : k = 2 := by omega
          subst hke
          go_wp2
          go_ret
          exact ⟨_, rfl, ⟨Hrow.out.1, by
            rcases Hrow.out.2 with h | ⟨g, cap, cur, h1, -, h2⟩
            · exact .inl h
            · exact .inr ⟨g, cap, cur, h1, Nat.zero_le _, h2⟩⟩, Hbe.out⟩


end Go.Proofs.YtfihjmoaibmllaaDoor
