/-
  Images: what is the same is told to be the same: lists, objects.
-/
import Derived.Test.YtblbiikfipcbcaaDoorRM15
set_option linter.unusedVariables false
set_option maxRecDepth 20000
namespace Go.Proofs.YtblbiikfipcbcaaDoor
open Go.RowKit Go.Shelf

set_option maxHeartbeats 2000000 in
theorem sameI16_eq (n0 : Nat) (va vb : Value) (l : List Int) (w : World) (ha : Lrd n0 w va .i64 l) (hb : Lrd n0 w vb .i64 l) (hl : l.length ≤ 4611686018427387904) :
    Calls Tryd.prog 29 #[va, vb] w fun e w' => e = .returned (.bool true) ∧ ∃ nq, w' = w.drewN nq := by
  obtain ⟨a, ca, rfl, -, ha'⟩ := ha
  obtain ⟨b, cb, rfl, -, hb'⟩ := hb
  have Ha : Hid (∀ (f : Nat) z, l[f]? = some z → ∃ q off, a = some ⟨q, off, none⟩ ∧ q < n0 ∧ w.cell? ⟨q, off + f, none⟩ = some (.int .i64 z)) := ha'
  have Hb : Hid (∀ (f : Nat) z, l[f]? = some z → ∃ q off, b = some ⟨q, off, none⟩ ∧ q < n0 ∧ w.cell? ⟨q, off + f, none⟩ = some (.int .i64 z)) := hb'
  clear ha' hb'
  go_enter Tryd.func29, Tryd.ntmps29
  go_wp2
  go_loopw [5] (fun v5 wr => ∃ (k m : Nat), k ≤ l.length ∧ v5 = .int .i64 k ∧ wr = w.drewN m) (fun v5 _ => l.length - (intOf v5).toNat)
  case atStart => exact ⟨0, 0, Nat.zero_le _, rfl, rfl⟩
  case round =>
    obtain ⟨k, m, hk, rfl, rfl⟩ := hrel
    by_cases hkl : k < l.length
    · have hki : (k : Int) < (l.length : Int) := by omega
      have hz : l[k]? = some (l[k]'hkl) := List.getElem?_eq_getElem hkl
      generalize l[k]'hkl = z at hz
      obtain ⟨q, off, rfl, -, ca'⟩ := Ha.out k z hz
      obtain ⟨q', off', rfl, -, cb'⟩ := Hb.out k z hz
      clear hz
      go_upto_region 6 with fail
      go_quiet (fail)
      go_wp2
      go_roundw
      case rel => exact ⟨k + 1, m + nq, by omega, by go_num, rfl⟩
      case measure => simp [intOf]; omega
    · have hki : ¬ (k : Int) < (l.length : Int) := by omega
      go_wp2
      go_ret
      exact ⟨rfl, m, rfl⟩

set_option maxHeartbeats 4000000 in
theorem sameO16_eq (n0 : Nat) (o : Im.Ob) (vp vr vp' vr' : Value) (w : World) (hn : n0 ≤ w.heap.size) (h1 : Lrd n0 w vp .i64 o.ps) (h2 : Lrd n0 w vr .u64 (o.rs.map Int.ofNat)) (h3 : Lrd n0 w vp' .i64 o.ps) (h4 : Lrd n0 w vr' .u64 (o.rs.map Int.ofNat)) (hp : o.ps.length ≤ 4611686018427387904) (hr : o.rs.length ≤ 4611686018427387904) :
    Calls Tryd.prog 30 #[.agg (ocs o.ser o.kind o.site vp vr), .agg (ocs o.ser o.kind o.site vp' vr')] w fun e w' => e = .returned (.bool true) ∧ Below w.heap.size w w' := by
  have hrl : (o.rs.map Int.ofNat).length = o.rs.length := List.length_map _
  have H2 : Hid (Lrd n0 w vr .u64 (o.rs.map Int.ofNat)) := h2
  have H4 : Hid (Lrd n0 w vr' .u64 (o.rs.map Int.ofNat)) := h4
  have H1 := h1
  have H3 := h3
  obtain ⟨a1, c1, rfl, -⟩ := h1
  obtain ⟨a2, c2, e2, -⟩ := h2
  obtain ⟨a3, c3, rfl, -⟩ := h3
  obtain ⟨a4, c4, e4, -⟩ := h4
  rw [hrl] at e2 e4
  subst e2
  subst e4
  have b1 : Below w.heap.size w (w.alloc (.cells (ocs o.ser o.kind o.site (.slice a1 o.ps.length c1) (.slice a2 o.rs.length c2)) 72)) := Below.alloc (Below.refl _ _) (Nat.le_refl _) _
  have b2 := Below.alloc b1 b1.size (.cells (ocs o.ser o.kind o.site (.slice a3 o.ps.length c3) (.slice a4 o.rs.length c4)) 72)
  have hx := (Below.heap_alloc (w.alloc (.cells (ocs o.ser o.kind o.site (.slice a1 o.ps.length c1) (.slice a2 o.rs.length c2)) 72)) (.cells (ocs o.ser o.kind o.site (.slice a3 o.ps.length c3) (.slice a4 o.rs.length c4)) 72) w.heap.size (by simp)).trans (heap_alloc_new w (.cells (ocs o.ser o.kind o.site (.slice a1 o.ps.length c1) (.slice a2 o.rs.length c2)) 72 (0, 0)))
  have hy := heap_alloc_new (w.alloc (.cells (ocs o.ser o.kind o.site (.slice a1 o.ps.length c1) (.slice a2 o.rs.length c2)) 72)) (.cells (ocs o.ser o.kind o.site (.slice a3 o.ps.length c3) (.slice a4 o.rs.length c4)) 72 (0, 0))
  rw [World.size_alloc] at hy
  have hsi := sameI16_eq n0 _ _ o.ps _ (H1.below (b2.mono hn)) (H3.below (b2.mono hn)) hp
  generalize hW : (w.alloc (.cells (ocs o.ser o.kind o.site (.slice a1 o.ps.length c1) (.slice a2 o.rs.length c2)) 72)).alloc (.cells (ocs o.ser o.kind o.site (.slice a3 o.ps.length c3) (.slice a4 o.rs.length c4)) 72) = W at *
  have x0 : W.cell? ⟨w.heap.size, 0, none⟩ = some (.int .u64 o.ser) := Kg.heap_cell hx 0
  have x1 : W.cell? ⟨w.heap.size, 1, none⟩ = some (.int .i64 o.kind) := Kg.heap_cell hx 1
  have x2 : W.cell? ⟨w.heap.size, 2, none⟩ = some (.int .i64 o.site) := Kg.heap_cell hx 2
  have x3 : W.cell? ⟨w.heap.size, 3, none⟩ = some (.slice a1 o.ps.length c1) := Kg.heap_cell hx 3
  have x4 : W.cell? ⟨w.heap.size, 4, none⟩ = some (.slice a2 o.rs.length c2) := Kg.heap_cell hx 4
  have y0 : W.cell? ⟨w.heap.size + 1, 0, none⟩ = some (.int .u64 o.ser) := Kg.heap_cell hy 0
  have y1 : W.cell? ⟨w.heap.size + 1, 1, none⟩ = some (.int .i64 o.kind) := Kg.heap_cell hy 1
  have y2 : W.cell? ⟨w.heap.size + 1, 2, none⟩ = some (.int .i64 o.site) := Kg.heap_cell hy 2
  have y3 : W.cell? ⟨w.heap.size + 1, 3, none⟩ = some (.slice a3 o.ps.length c3) := Kg.heap_cell hy 3
  have y4 : W.cell? ⟨w.heap.size + 1, 4, none⟩ = some (.slice a4 o.rs.length c4) := Kg.heap_cell hy 4
  have HB : Hid (Below w.heap.size w W) := b2
  clear b1 b2 hx hy H1 H3 hrl
  go_enter Tryd.func30, Tryd.ntmps30
  go_wp2_with fail
  refine hsi.mono ?_
  rintro e w2 ⟨rfl, nA, rfl⟩
  clear hsi
  go_wp2
  go_loopw [5] (fun v5 wr => ∃ (k m : Nat), k ≤ o.rs.length ∧ v5 = .int .i64 k ∧ wr = W.drewN m) (fun v5 _ => o.rs.length - (intOf v5).toNat)
  case atStart => exact ⟨0, nA, Nat.zero_le _, rfl, rfl⟩
  case round =>
    obtain ⟨k, m, hk, rfl, rfl⟩ := hrel
    by_cases hkl : k < o.rs.length
    · have hki : (k : Int) < (o.rs.length : Int) := by omega
      have hz : (o.rs.map Int.ofNat)[k]? = some (((o.rs[k]'hkl : Nat)) : Int) := by rw [List.getElem?_map, List.getElem?_eq_getElem hkl]; rfl
      generalize ((o.rs[k]'hkl : Nat) : Int) = z at hz
      obtain ⟨_, _, e2, -, hc2⟩ := H2.out.below (HB.out.mono hn)
      rw [List.length_map] at e2
      cases e2
      obtain ⟨_, _, e4, -, hc4⟩ := H4.out.below (HB.out.mono hn)
      rw [List.length_map] at e4
      cases e4
      obtain ⟨q, off, rfl, -, ca'⟩ := hc2 k z hz
      obtain ⟨q', off', rfl, -, cb'⟩ := hc4 k z hz
      clear hz hc2 hc4
      go_upto_region 6 with fail
      go_quiet (fail)
      go_wp2
      go_roundw
      case rel => exact ⟨k + 1, m + nq, by omega, by go_num, rfl⟩
      case measure => simp [intOf]; omega
    · have hki : ¬ (k : Int) < (o.rs.length : Int) := by omega
      go_wp2
      go_ret
      exact ⟨rfl, Below.drewN' HB.out _⟩

end Go.Proofs.YtblbiikfipcbcaaDoor
