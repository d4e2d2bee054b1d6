import Derived.Test.YtblbiikfipcbcaaGreatDoorPRt
/-
  Images: what is the same is told to be the same: lists, objects.
-/
set_option linter.unusedVariables false
set_option maxRecDepth 20000
namespace Go.Proofs.YtblbiikfipcbcaaGreatDoor
open Go.RowKit Go.Shelf

set_option maxHeartbeats 2000000 in
theorem sameI16_eq (n0 : Nat) (va vb : Value) (l : List Int) (w : World) (ha : Lrd n0 w va .i64 l) (hb : Lrd n0 w vb .i64 l) (hl : l.length ≤ 4611686018427387904) :
    Calls Tryz.prog 22 #[va, vb] w fun e w' => e = .returned (.bool true) ∧ ∃ nq, w' = w.drewN nq := by
  obtain ⟨a, ca, rfl, -, ha'⟩ := ha
  obtain ⟨b, cb, rfl, -, hb'⟩ := hb
  have Ha : Hid (∀ (f : Nat) z, l[f]? = some z → ∃ q off, a = some ⟨q, off, none⟩ ∧ q < n0 ∧ w.cell? ⟨q, off + f, none⟩ = some (.int .i64 z)) := ha'
  have Hb : Hid (∀ (f : Nat) z, l[f]? = some z → ∃ q off, b = some ⟨q, off, none⟩ ∧ q < n0 ∧ w.cell? ⟨q, off + f, none⟩ = some (.int .i64 z)) := hb'
  clear ha' hb'
  go_enter Tryz.func22, Tryz.ntmps22
  go_wp2
  go_loopw [5] (fun v5 wr => ∃ (k m : Nat), k ≤ l.length ∧ v5 = .int .i64 k ∧ wr = w.drewN m) (fun v5 _ => l.length - (intOf v5).toNat)
  case atStart => exact ⟨0, 0, Nat.zero_le _, rfl, rfl⟩
  case round =>
    obtain ⟨k, m, hk, rfl, rfl⟩ := hrel
    by_cases hkl : k < l.length
    · have hki : (k : Int) < (l.length : Int) := by omega
      have hz : l[k]? = some (l[k]'hkl) := List.getElem?_eq_getElem hkl
      generalize l[k]'hkl = z at hz
      obtain ⟨q, off, rfl, -, ca'⟩ := Ha.out k z hz
      obtain ⟨q', off', rfl, -, cb'⟩ := Hb.out k z hz
      clear hz
      go_upto_region 6 with fail
      go_quiet (fail)
      go_wp2
      go_roundw
      case rel => exact ⟨k + 1, m + nq, by omega, by go_num, rfl⟩
      case measure => simp [intOf]; omega
    · have hki : ¬ (k : Int) < (l.length : Int) := by omega
      go_wp2
      go_ret
      exact ⟨rfl, m, rfl⟩

set_option maxHeartbeats 4000000 in
theorem sameO16_eq (n0 : Nat) (o : Im.Ob) (vp vr vp' vr' : Value) (w : World) (hn : n0 ≤ w.heap.size) (h1 : Lrd n0 w vp .i64 o.ps) (h2 : Lrd n0 w vr .u64 (o.rs.map Int.ofNat)) (h3 : Lrd n0 w vp' .i64 o.ps) (h4 : Lrd n0 w vr' .u64 (o.rs.map Int.ofNat)) (hp : o.ps.length ≤ 4611686018427387904) (hr : o.rs.length ≤ 4611686018427387904) :
    Calls Tryz.prog 23 #[.agg (ocs o.ser o.kind o.site vp vr), .agg (ocs o.ser o.kind o.site vp' vr')] w fun e w' => e = .returned (.bool true) ∧ Below w.heap.size w w' := by
  have hrl : (o.rs.map Int.ofNat).length = o.rs.length := List.length_map _
  have H2 : Hid (Lrd n0 w vr .u64 (o.rs.map Int.ofNat)) := h2
  have H4 : Hid (Lrd n0 w vr' .u64 (o.rs.map Int.ofNat)) := h4
  have H1 := h1
  have H3 := h3
  obtain ⟨a1, c1, rfl, -⟩ := h1
  obtain ⟨a2, c2, e2, -⟩ := h2
  obtain ⟨a3, c3, rfl, -⟩ := h3
  obtain ⟨a4, c4, e4, -⟩ := h4
  rw [hrl] at e2 e4
  subst e2
  subst e4
  have b1 : Below w.heap.size w (w.alloc (.cells (ocs o.ser o.kind o.site (.slice a1 o.ps.length c1) (.slice a2 o.rs.length c2)) 58)) := Below.alloc (Below.refl _ _) (Nat.le_refl _) _
  have b2 := Below.alloc b1 b1.size (.cells (ocs o.ser o.kind o.site (.slice a3 o.ps.length c3) (.slice a4 o.rs.length c4)) 58)
  have hx := (Below.heap_alloc (w.alloc (.cells (ocs o.ser o.kind o.site (.slice a1 o.ps.length c1) (.slice a2 o.rs.length c2)) 58)) (.cells (ocs o.ser o.kind o.site (.slice a3 o.ps.length c3) (.slice a4 o.rs.length c4)) 58) w.heap.size (by simp)).trans (heap_alloc_new w (.cells (ocs o.ser o.kind o.site (.slice a1 o.ps.length c1) (.slice a2 o.rs.length c2)) 58 (0, 0)))
  have hy := heap_alloc_new (w.alloc (.cells (ocs o.ser o.kind o.site (.slice a1 o.ps.length c1) (.slice a2 o.rs.length c2)) 58)) (.cells (ocs o.ser o.kind o.site (.slice a3 o.ps.length c3) (.slice a4 o.rs.length c4)) 58 (0, 0))
  rw [World.size_alloc] at hy
  have hsi := sameI16_eq n0 _ _ o.ps _ (H1.below (b2.mono hn)) (H3.below (b2.mono hn)) hp
  generalize hW : (w.alloc (.cells (ocs o.ser o.kind o.site (.slice a1 o.ps.length c1) (.slice a2 o.rs.length c2)) 58)).alloc (.cells (ocs o.ser o.kind o.site (.slice a3 o.ps.length c3) (.slice a4 o.rs.length c4)) 58) = W at *
  have x0 : W.cell? ⟨w.heap.size, 0, none⟩ = some (.int .u64 o.ser) := Kg.heap_cell hx 0
  have x1 : W.cell? ⟨w.heap.size, 1, none⟩ = some (.int .i64 o.kind) := Kg.heap_cell hx 1
  have x2 : W.cell? ⟨w.heap.size, 2, none⟩ = some (.int .i64 o.site) := Kg.heap_cell hx 2
  have x3 : W.cell? ⟨w.heap.size, 3, none⟩ = some (.slice a1 o.ps.length c1) := Kg.heap_cell hx 3
  have x4 : W.cell? ⟨w.heap.size, 4, none⟩ = some (.slice a2 o.rs.length c2) := Kg.heap_cell hx 4
  have y0 : W.cell? ⟨w.heap.size + 1, 0, none⟩ = some (.int .u64 o.ser) := Kg.heap_cell hy 0
  have y1 : W.cell? ⟨w.heap.size + 1, 1, none⟩ = some (.int .i64 o.kind) := Kg.heap_cell hy 1
  have y2 : W.cell? ⟨w.heap.size + 1, 2, none⟩ = some (.int .i64 o.site) := Kg.heap_cell hy 2
  have y3 : W.cell? ⟨w.heap.size + 1, 3, none⟩ = some (.slice a3 o.ps.length c3) := Kg.heap_cell hy 3
  have y4 : W.cell? ⟨w.heap.size + 1, 4, none⟩ = some (.slice a4 o.rs.length c4) := Kg.heap_cell hy 4
  have HB : Hid (Below w.heap.size w W) := b2
  clear b1 b2 hx hy H1 H3 hrl
  go_enter Tryz.func23, Tryz.ntmps23
  go_wp2_with fail
  refine hsi.mono ?_
  rintro e w2 ⟨rfl, nA, rfl⟩
  clear hsi
  go_wp2
  go_loopw [5] (fun v5 wr => ∃ (k m : Nat), k ≤ o.rs.length ∧ v5 = .int .i64 k ∧ wr = W.drewN m) (fun v5 _ => o.rs.length - (intOf v5).toNat)
  case atStart => exact ⟨0, nA, Nat.zero_le _, rfl, rfl⟩
  case round =>
    obtain ⟨k, m, hk, rfl, rfl⟩ := hrel
    by_cases hkl : k < o.rs.length
    · have hki : (k : Int) < (o.rs.length : Int) := by omega
      have hz : (o.rs.map Int.ofNat)[k]? = some (((o.rs[k]'hkl : Nat)) : Int) := by rw [List.getElem?_map, List.getElem?_eq_getElem hkl]; rfl
      generalize ((o.rs[k]'hkl : Nat) : Int) = z at hz
      obtain ⟨_, _, e2, -, hc2⟩ := H2.out.below (HB.out.mono hn)
      rw [List.length_map] at e2
      cases e2
      obtain ⟨_, _, e4, -, hc4⟩ := H4.out.below (HB.out.mono hn)
      rw [List.length_map] at e4
      cases e4
      obtain ⟨q, off, rfl, -, ca'⟩ := hc2 k z hz
      obtain ⟨q', off', rfl, -, cb'⟩ := hc4 k z hz
      clear hz hc2 hc4
      go_upto_region 6 with fail
      go_quiet (fail)
      go_wp2
      go_roundw
      case rel => exact ⟨k + 1, m + nq, by omega, by go_num, rfl⟩
      case measure => simp [intOf]; omega
    · have hki : ¬ (k : Int) < (o.rs.length : Int) := by omega
      go_wp2
      go_ret
      exact ⟨rfl, Below.drewN' HB.out _⟩

end Go.Proofs.YtblbiikfipcbcaaGreatDoor

/-
  Images: is a graph small enough to be looked at?
-/
set_option linter.unusedVariables false
set_option maxRecDepth 20000
namespace Go.Proofs.YtblbiikfipcbcaaGreatDoor
open Go.RowKit Go.Shelf

def osum (l : List OL) : Nat := (l.map (fun x => x.o.ps.length + x.o.rs.length)).sum
def tsum (l : List (Value × List (Value × List Int))) : Nat := (l.map (fun x => x.2.length + fsum (x.2.map (·.2)))).sum

theorem osum_snoc {l : List OL} {k : Nat} {x : OL} (h : l[k]? = some x) : osum (l.take (k + 1)) = osum (l.take k) + (x.o.ps.length + x.o.rs.length) := by
  unfold osum
  rw [take_snocL h, List.map_append, List.sum_append]
  simp
theorem tsum_snoc {l : List (Value × List (Value × List Int))} {k : Nat} {x : Value × List (Value × List Int)} (h : l[k]? = some x) : tsum (l.take (k + 1)) = tsum (l.take k) + (x.2.length + fsum (x.2.map (·.2))) := by
  unfold tsum
  rw [take_snocL h, List.map_append, List.sum_append]
  simp

/-- How long what comes in may be. -/
structure Inb (os : List OL) (ts : List (Value × List (Value × List Int))) (g : Im.Gr) : Prop where
  o : os.length ≤ 1000000000000000
  ol : ∀ x, x ∈ os → x.o.ps.length ≤ 1000000000000000 ∧ x.o.rs.length ≤ 1000000000000000
  t : ts.length ≤ 1000000000000000
  tl : ∀ x, x ∈ ts → x.2.length ≤ 1000000000000000 ∧ ∀ y, y ∈ x.2 → y.2.length ≤ 1000000000000000
  h : g.hs.length ≤ 1000000000000000
  r : g.rg.length ≤ 1000000000000000
  q : g.qu.length ≤ 1000000000000000

def szs (os : List OL) (ts : List (Value × List (Value × List Int))) (g : Im.Gr) : Nat := os.length + ts.length + g.hs.length + g.rg.length + g.qu.length

end Go.Proofs.YtblbiikfipcbcaaGreatDoor

/-
  Images: what is the same is told to be the same: graphs.
-/
set_option linter.unusedVariables false
set_option maxRecDepth 20000
namespace Go.Proofs.YtblbiikfipcbcaaGreatDoor
open Go.RowKit Go.Shelf

set_option maxHeartbeats 8000000 in
theorem same16_eq (n0 : Nat) (w : World) (hn : n0 ≤ w.heap.size) (vo vs vh vr vq vo' vs' vh' vr' vq' : Value) (os os' : List OL) (ts ts' : List (Value × List (Value × List Int))) (g : Im.Gr) (hg : Grd n0 w vo vs vh vr vq os ts g) (hg' : Grd n0 w vo' vs' vh' vr' vq' os' ts' g) (hol : os.length ≤ 1000000000000) (hs : Sln ts) (h1 : g.hs.length ≤ 1000000000000) (h2 : g.rg.length ≤ 1000000000000) (h3 : g.qu.length ≤ 1000000000000) :
    Calls Tryz.prog 8 #[.agg (gcs vo vs vh vr vq g.next), .agg (gcs vo' vs' vh' vr' vq' g.next)] w fun e w' => e = .returned (.bool true) ∧ Below w.heap.size w w' := by
  have eo : os.length = g.obs.length := by rw [hg.eo, List.length_map]
  have eo' : os'.length = g.obs.length := by rw [hg'.eo, List.length_map]
  have et : ts.length = g.slots.length := by rw [hg.es, List.length_map]
  have et' : ts'.length = g.slots.length := by rw [hg'.es, List.length_map]
  have HG : Hid (∀ w', Below w.heap.size w w' → Grd n0 w' vo vs vh vr vq os ts g ∧ Grd n0 w' vo' vs' vh' vr' vq' os' ts' g) := fun w' b' => ⟨hg.below (b'.mono hn), hg'.below (b'.mono hn)⟩
  have HE : Hid (os.length = g.obs.length ∧ os'.length = g.obs.length ∧ ts.length = g.slots.length ∧ ts'.length = g.slots.length) := ⟨eo, eo', et, et'⟩
  have hoc : g.obs.length ≤ 1000000000000 := by omega
  have htc : g.slots.length ≤ 4611686018427387904 := by have := hs.t; omega
  have Hs : Hid (Sln ts) := hs
  obtain ⟨a0, c0, e0, -⟩ := hg.ob
  obtain ⟨a1, c1, e1, -⟩ := hg.sl
  obtain ⟨a2, c2, e2, -, -⟩ := hg.hs
  obtain ⟨a3, c3, e3, -, -⟩ := hg.rg
  obtain ⟨a4, c4, e4, -, -⟩ := hg.qu
  obtain ⟨b0, d0, f0, -⟩ := hg'.ob
  obtain ⟨b1, d1, f1, -⟩ := hg'.sl
  obtain ⟨b2, d2, f2, -, -⟩ := hg'.hs
  obtain ⟨b3, d3, f3, -, -⟩ := hg'.rg
  obtain ⟨b4, d4, f4, -, -⟩ := hg'.qu
  rw [eo] at e0
  rw [eo'] at f0
  rw [et] at e1
  rw [et'] at f1
  subst e0 e1 e2 e3 e4 f0 f1 f2 f3 f4
  have l1 : Below w.heap.size w (w.alloc (.cells (gcs (.slice a0 g.obs.length c0) (.slice a1 g.slots.length c1) (.slice a2 g.hs.length c2) (.slice a3 g.rg.length c3) (.slice a4 g.qu.length c4) g.next) 28)) := Below.alloc (Below.refl _ _) (Nat.le_refl _) _
  have l2 := Below.alloc l1 l1.size (.cells (gcs (.slice b0 g.obs.length d0) (.slice b1 g.slots.length d1) (.slice b2 g.hs.length d2) (.slice b3 g.rg.length d3) (.slice b4 g.qu.length d4) g.next) 28)
  have hx := (Below.heap_alloc (w.alloc (.cells (gcs (.slice a0 g.obs.length c0) (.slice a1 g.slots.length c1) (.slice a2 g.hs.length c2) (.slice a3 g.rg.length c3) (.slice a4 g.qu.length c4) g.next) 28)) (.cells (gcs (.slice b0 g.obs.length d0) (.slice b1 g.slots.length d1) (.slice b2 g.hs.length d2) (.slice b3 g.rg.length d3) (.slice b4 g.qu.length d4) g.next) 28) w.heap.size (by simp)).trans (heap_alloc_new w (.cells (gcs (.slice a0 g.obs.length c0) (.slice a1 g.slots.length c1) (.slice a2 g.hs.length c2) (.slice a3 g.rg.length c3) (.slice a4 g.qu.length c4) g.next) 28 (0, 0)))
  have hy := heap_alloc_new (w.alloc (.cells (gcs (.slice a0 g.obs.length c0) (.slice a1 g.slots.length c1) (.slice a2 g.hs.length c2) (.slice a3 g.rg.length c3) (.slice a4 g.qu.length c4) g.next) 28)) (.cells (gcs (.slice b0 g.obs.length d0) (.slice b1 g.slots.length d1) (.slice b2 g.hs.length d2) (.slice b3 g.rg.length d3) (.slice b4 g.qu.length d4) g.next) 28 (0, 0))
  rw [World.size_alloc] at hy
  have hWs : ((w.alloc (.cells (gcs (.slice a0 g.obs.length c0) (.slice a1 g.slots.length c1) (.slice a2 g.hs.length c2) (.slice a3 g.rg.length c3) (.slice a4 g.qu.length c4) g.next) 28)).alloc (.cells (gcs (.slice b0 g.obs.length d0) (.slice b1 g.slots.length d1) (.slice b2 g.hs.length d2) (.slice b3 g.rg.length d3) (.slice b4 g.qu.length d4) g.next) 28)).heap.size = w.heap.size + 2 := by simp
  generalize hW : (w.alloc (.cells (gcs (.slice a0 g.obs.length c0) (.slice a1 g.slots.length c1) (.slice a2 g.hs.length c2) (.slice a3 g.rg.length c3) (.slice a4 g.qu.length c4) g.next) 28)).alloc (.cells (gcs (.slice b0 g.obs.length d0) (.slice b1 g.slots.length d1) (.slice b2 g.hs.length d2) (.slice b3 g.rg.length d3) (.slice b4 g.qu.length d4) g.next) 28) = W at *
  have x0 : W.cell? ⟨w.heap.size, 0, none⟩ = some (.slice a0 g.obs.length c0) := Kg.heap_cell hx 0
  have x1 : W.cell? ⟨w.heap.size, 1, none⟩ = some (.slice a1 g.slots.length c1) := Kg.heap_cell hx 1
  have x2 : W.cell? ⟨w.heap.size, 2, none⟩ = some (.slice a2 g.hs.length c2) := Kg.heap_cell hx 2
  have x3 : W.cell? ⟨w.heap.size, 3, none⟩ = some (.slice a3 g.rg.length c3) := Kg.heap_cell hx 3
  have x4 : W.cell? ⟨w.heap.size, 4, none⟩ = some (.slice a4 g.qu.length c4) := Kg.heap_cell hx 4
  have x5 : W.cell? ⟨w.heap.size, 5, none⟩ = some (.int .u64 g.next) := Kg.heap_cell hx 5
  have y0 : W.cell? ⟨w.heap.size + 1, 0, none⟩ = some (.slice b0 g.obs.length d0) := Kg.heap_cell hy 0
  have y1 : W.cell? ⟨w.heap.size + 1, 1, none⟩ = some (.slice b1 g.slots.length d1) := Kg.heap_cell hy 1
  have y2 : W.cell? ⟨w.heap.size + 1, 2, none⟩ = some (.slice b2 g.hs.length d2) := Kg.heap_cell hy 2
  have y3 : W.cell? ⟨w.heap.size + 1, 3, none⟩ = some (.slice b3 g.rg.length d3) := Kg.heap_cell hy 3
  have y4 : W.cell? ⟨w.heap.size + 1, 4, none⟩ = some (.slice b4 g.qu.length d4) := Kg.heap_cell hy 4
  have y5 : W.cell? ⟨w.heap.size + 1, 5, none⟩ = some (.int .u64 g.next) := Kg.heap_cell hy 5
  have HB : Hid (Below w.heap.size w W) := l2
  have HK : Hid (∀ w', Below W.heap.size W w' → w'.cell? ⟨w.heap.size, 0, none⟩ = some (.slice a0 g.obs.length c0) ∧ w'.cell? ⟨w.heap.size, 1, none⟩ = some (.slice a1 g.slots.length c1) ∧ w'.cell? ⟨w.heap.size + 1, 0, none⟩ = some (.slice b0 g.obs.length d0) ∧ w'.cell? ⟨w.heap.size + 1, 1, none⟩ = some (.slice b1 g.slots.length d1)) := fun w' b' => by
    have q1 : w.heap.size < W.heap.size := by omega
    have q2 : w.heap.size + 1 < W.heap.size := by omega
    exact ⟨(b'.cell (p := ⟨w.heap.size, 0, none⟩) q1).trans x0, (b'.cell (p := ⟨w.heap.size, 1, none⟩) q1).trans x1, (b'.cell (p := ⟨w.heap.size + 1, 0, none⟩) q2).trans y0, (b'.cell (p := ⟨w.heap.size + 1, 1, none⟩) q2).trans y1⟩
  have s1 := sameI16_eq n0 _ _ g.hs W (HG.out W l2).1.hs (HG.out W l2).2.hs (by omega)
  have s2 := fun (m : Nat) => sameI16_eq n0 _ _ g.rg (W.drewN m) ((HG.out W l2).1.rg.below ⟨rfl, rfl, rfl, Nat.le_refl _, fun _ _ => rfl⟩) ((HG.out W l2).2.rg.below ⟨rfl, rfl, rfl, Nat.le_refl _, fun _ _ => rfl⟩) (by omega)
  have s3 := fun (m : Nat) => sameI16_eq n0 _ _ g.qu (W.drewN m) ((HG.out W l2).1.qu.below ⟨rfl, rfl, rfl, Nat.le_refl _, fun _ _ => rfl⟩) ((HG.out W l2).2.qu.below ⟨rfl, rfl, rfl, Nat.le_refl _, fun _ _ => rfl⟩) (by omega)
  clear l1 l2 hx hy eo eo' et et' hg hg' hs
  go_enter Tryz.func8, Tryz.ntmps8
  go_wp2_with fail
  refine s1.mono ?_
  rintro e w2 ⟨rfl, n1, rfl⟩
  clear s1
  go_wp2_with fail
  refine (s2 n1).mono ?_
  rintro e w2 ⟨rfl, n2, rfl⟩
  clear s2
  go_wp2_with fail
  refine (s3 _).mono ?_
  rintro e w2 ⟨rfl, n3, rfl⟩
  clear s3 x2 x3 x4 x5 y2 y3 y4 y5
  go_wp2
  go_loopw [5] (fun v5 wr => ∃ k : Nat, k ≤ g.obs.length ∧ v5 = .int .i64 k ∧ Hid (Below W.heap.size W wr)) (fun v5 _ => g.obs.length - (intOf v5).toNat)
  case atStart => exact ⟨0, Nat.zero_le _, rfl, Below.drewN' (Below.refl _ _) _⟩
  case round =>
    obtain ⟨k, hk, rfl, Hb⟩ := hrel
    clear x0 x1 y0 y1
    obtain ⟨x0, x1, y0, y1⟩ := HK.out _ Hb.out
    have BW : Hid (Below w.heap.size w wr) := HB.out.trans (Hb.out.mono HB.out.size)
    by_cases hkl : k < g.obs.length
    · have hki : (k : Int) < (g.obs.length : Int) := by omega
      have hz : os[k]? = some (os[k]'(by have := HE.out; omega)) := List.getElem?_eq_getElem _
      generalize os[k]'(by have := HE.out; omega) = x at hz
      have hz' : os'[k]? = some (os'[k]'(by have := HE.out; omega)) := List.getElem?_eq_getElem _
      generalize os'[k]'(by have := HE.out; omega) = y at hz'
      have hxy : x.o = y.o := by
        have h5 : g.obs[k]? = some x.o := by rw [(HG.out w (Below.refl _ _)).1.eo, List.getElem?_map, hz]; rfl
        have h6 : g.obs[k]? = some y.o := by rw [(HG.out w (Below.refl _ _)).2.eo, List.getElem?_map, hz']; rfl
        rw [h5] at h6
        exact Option.some.inj h6
      have Hsr := (HG.out w (Below.refl _ _)).1.sr x.o (by rw [(HG.out w (Below.refl _ _)).1.eo]; exact List.mem_map_of_mem (List.mem_of_getElem? hz))
      obtain ⟨_, _, ea, hob⟩ := (HG.out wr BW.out).1.ob
      have hlen1 := HE.out.1
      rw [hlen1] at ea
      cases ea
      obtain ⟨hp, hr, q, off, rfl, hq, hc⟩ := hob k x hz
      obtain ⟨_, _, eb, hob'⟩ := (HG.out wr BW.out).2.ob
      have hlen2 := HE.out.2.1
      rw [hlen2] at eb
      cases eb
      obtain ⟨hp', hr', q', off', rfl, hq', hc'⟩ := hob' k y hz'
      rw [← hxy] at hp' hr'
      have i0 : wr.cell? ⟨q, off + k * 5, none⟩ = some (.int .u64 x.o.ser) := hc 0 (by omega)
      have i1 : wr.cell? ⟨q, off + k * 5 + 1, none⟩ = some (.int .i64 x.o.kind) := hc 1 (by omega)
      have i2 : wr.cell? ⟨q, off + k * 5 + 2, none⟩ = some (.int .i64 x.o.site) := hc 2 (by omega)
      have i3 : wr.cell? ⟨q, off + k * 5 + 3, none⟩ = some x.vp := hc 3 (by omega)
      have i4 : wr.cell? ⟨q, off + k * 5 + 4, none⟩ = some x.vr := hc 4 (by omega)
      have j0 : wr.cell? ⟨q', off' + k * 5, none⟩ = some (.int .u64 y.o.ser) := hc' 0 (by omega)
      have j1 : wr.cell? ⟨q', off' + k * 5 + 1, none⟩ = some (.int .i64 y.o.kind) := hc' 1 (by omega)
      have j2 : wr.cell? ⟨q', off' + k * 5 + 2, none⟩ = some (.int .i64 y.o.site) := hc' 2 (by omega)
      have j3 : wr.cell? ⟨q', off' + k * 5 + 3, none⟩ = some y.vp := hc' 3 (by omega)
      have j4 : wr.cell? ⟨q', off' + k * 5 + 4, none⟩ = some y.vr := hc' 4 (by omega)
      rw [← hxy] at j0 j1 j2
      have hso := sameO16_eq n0 x.o x.vp x.vr y.vp y.vr wr.drew (Nat.le_trans hn BW.out.size) (hp.below (Below.refl _ _).drew) (hr.below (Below.refl _ _).drew) (hp'.below (Below.refl _ _).drew) (hr'.below (Below.refl _ _).drew) Hsr.2.2.2.1 Hsr.2.2.2.2
      obtain ⟨ap, cp, ep, -⟩ := hp
      obtain ⟨ar, cr, er, -⟩ := hr
      obtain ⟨ap', cp', ep', -⟩ := hp'
      obtain ⟨ar', cr', er', -⟩ := hr'
      rw [List.length_map] at er er'
      rw [ep, er, ep', er'] at hso
      rw [ep] at i3
      rw [er] at i4
      rw [ep'] at j3
      rw [er'] at j4
      clear hob hob' hc hc' hz hz' ep er ep' er' Hsr hxy hlen1 hlen2
      go_upto_region 6 with fail
      go_region_held3 (fun w' => w'.cell? ⟨w.heap.size, 0, none⟩ = some (.slice (some ⟨q, off, none⟩) g.obs.length c0) ∧ w'.cell? ⟨w.heap.size + 1, 0, none⟩ = some (.slice (some ⟨q', off', none⟩) g.obs.length d0) ∧ w'.cell? ⟨q, off + k * 5, none⟩ = some (.int .u64 x.o.ser) ∧ w'.cell? ⟨q, off + k * 5 + 1, none⟩ = some (.int .i64 x.o.kind) ∧ w'.cell? ⟨q, off + k * 5 + 2, none⟩ = some (.int .i64 x.o.site) ∧ w'.cell? ⟨q, off + k * 5 + 3, none⟩ = some (.slice ap x.o.ps.length cp) ∧ w'.cell? ⟨q, off + k * 5 + 4, none⟩ = some (.slice ar x.o.rs.length cr) ∧ w'.cell? ⟨q', off' + k * 5, none⟩ = some (.int .u64 x.o.ser) ∧ w'.cell? ⟨q', off' + k * 5 + 1, none⟩ = some (.int .i64 x.o.kind) ∧ w'.cell? ⟨q', off' + k * 5 + 2, none⟩ = some (.int .i64 x.o.site) ∧ w'.cell? ⟨q', off' + k * 5 + 3, none⟩ = some (.slice ap' x.o.ps.length cp') ∧ w'.cell? ⟨q', off' + k * 5 + 4, none⟩ = some (.slice ar' x.o.rs.length cr')) (first | exact ⟨‹_›, ‹_›, ‹_›, ‹_›, ‹_›, ‹_›, ‹_›, ‹_›, ‹_›, ‹_›, ‹_›, ‹_›⟩ | go_keep) (first | (go_at_call 23; refine hso.mono ?_; rintro e w3 ⟨rfl, bo⟩; have hlq : q < wr.drew.heap.size := (World.block_lt_of_cell? _ _ i0 : q < wr.heap.size); have hlq' : q' < wr.drew.heap.size := (World.block_lt_of_cell? _ _ j0 : q' < wr.heap.size); have hlw : w.heap.size < wr.drew.heap.size := (World.block_lt_of_cell? _ _ x0 : w.heap.size < wr.heap.size); have hlw1 : w.heap.size + 1 < wr.drew.heap.size := (World.block_lt_of_cell? _ _ y0 : w.heap.size + 1 < wr.heap.size); have x0' := (bo.cell (p := ⟨w.heap.size, 0, none⟩) hlw).trans x0; have y0' := (bo.cell (p := ⟨w.heap.size + 1, 0, none⟩) hlw1).trans y0; have i0' := (bo.cell (p := ⟨q, off + k * 5, none⟩) hlq).trans i0; have i1' := (bo.cell (p := ⟨q, off + k * 5 + 1, none⟩) hlq).trans i1; have i2' := (bo.cell (p := ⟨q, off + k * 5 + 2, none⟩) hlq).trans i2; have i3' := (bo.cell (p := ⟨q, off + k * 5 + 3, none⟩) hlq).trans i3; have i4' := (bo.cell (p := ⟨q, off + k * 5 + 4, none⟩) hlq).trans i4; have j0' := (bo.cell (p := ⟨q', off' + k * 5, none⟩) hlq').trans j0; have j1' := (bo.cell (p := ⟨q', off' + k * 5 + 1, none⟩) hlq').trans j1; have j2' := (bo.cell (p := ⟨q', off' + k * 5 + 2, none⟩) hlq').trans j2; have j3' := (bo.cell (p := ⟨q', off' + k * 5 + 3, none⟩) hlq').trans j3; have j4' := (bo.cell (p := ⟨q', off' + k * 5 + 4, none⟩) hlq').trans j4))
      have HbE : Hid (Below W.heap.size W w3) := Hb.out.drew.trans (bo.mono Hb.out.drew.size)
      clear hso bo x0' y0' i0' i1' i2' i3' i4' j0' j1' j2' j3' j4'
      go_wp2
      go_roundw
      case rel => exact ⟨k + 1, by omega, by go_num, HbE⟩
      case measure => simp [intOf]; omega
    · have hki : ¬ (k : Int) < (g.obs.length : Int) := by omega
      obtain ⟨wZ, hwZ⟩ : ∃ wZ, wZ = wr := ⟨_, rfl⟩
      subst hwZ
      go_wp2
      go_loopw [6] (fun v6 w3 => ∃ t : Nat, t ≤ g.slots.length ∧ v6 = .int .i64 t ∧ Hid (Below W.heap.size W w3)) (fun v6 _ => g.slots.length - (intOf v6).toNat)
      case atStart => exact ⟨0, Nat.zero_le _, rfl, Hb⟩
      case round =>
        obtain ⟨t, htl, rfl, Hb3⟩ := hrel
        clear x0 x1 y0 y1 BW
        obtain ⟨x0, x1, y0, y1⟩ := HK.out _ Hb3.out
        have BW : Hid (Below w.heap.size w wr) := HB.out.trans (Hb3.out.mono HB.out.size)
        by_cases htt : t < g.slots.length
        · have hti : (t : Int) < (g.slots.length : Int) := by omega
          have hz : ts[t]? = some (ts[t]'(by have := HE.out; omega)) := List.getElem?_eq_getElem _
          generalize ts[t]'(by have := HE.out; omega) = x at hz
          have hz' : ts'[t]? = some (ts'[t]'(by have := HE.out; omega)) := List.getElem?_eq_getElem _
          generalize ts'[t]'(by have := HE.out; omega) = y at hz'
          have hxy : x.2.map (·.2) = y.2.map (·.2) := by
            have h5 : g.slots[t]? = some (x.2.map (·.2)) := by rw [(HG.out w (Below.refl _ _)).1.es, List.getElem?_map, hz]; rfl
            have h6 : g.slots[t]? = some (y.2.map (·.2)) := by rw [(HG.out w (Below.refl _ _)).2.es, List.getElem?_map, hz']; rfl
            rw [h5] at h6
            exact Option.some.inj h6
          have hxl : x.2.length = y.2.length := by have h5 := congrArg List.length hxy; rwa [List.length_map, List.length_map] at h5
          have Hxs := Hs.out.f x (List.mem_of_getElem? hz)
          have hxb := Hxs.1
          have HF : Hid (∀ w', Below W.heap.size W w' → (Frd n0 w' x.1 x.2 ∧ ∃ q off, a1 = some ⟨q, off, none⟩ ∧ w'.cell? ⟨q, off + t, none⟩ = some x.1) ∧ (Frd n0 w' y.1 y.2 ∧ ∃ q off, b1 = some ⟨q, off, none⟩ ∧ w'.cell? ⟨q, off + t, none⟩ = some y.1)) := fun w' b' => by
            have bw' : Below w.heap.size w w' := HB.out.trans (b'.mono HB.out.size)
            obtain ⟨_, _, ea, hob⟩ := (HG.out w' bw').1.sl
            obtain ⟨_, _, eb, hob'⟩ := (HG.out w' bw').2.sl
            rw [HE.out.2.2.1] at ea
            rw [HE.out.2.2.2] at eb
            cases ea
            cases eb
            obtain ⟨p1, q, off, p2, _, p3⟩ := hob t x hz
            obtain ⟨p1', q', off', p2', _, p3'⟩ := hob' t y hz'
            exact ⟨⟨p1, q, off, p2, p3⟩, p1', q', off', p2', p3'⟩
          obtain ⟨⟨hf, q, off, rfl, ct⟩, hf', q', off', rfl, ct'⟩ := HF.out _ Hb3.out
          obtain ⟨ax, cx, ex, -⟩ := hf
          obtain ⟨ay, cy, ey, -⟩ := hf'
          rw [← hxl] at ey
          rw [ex] at ct HF
          rw [ey] at ct' HF
          have Hxy : Hid (x.2.map (·.2) = y.2.map (·.2)) := hxy
          have Hxl : Hid (x.2.length = y.2.length) := hxl
          have Hfs : Hid (fsum (x.2.map (·.2)) ≤ 4611686018427387904) := Hxs.2
          clear hz hz' hxy hxl ex ey Hxs
          go_upto_region 11 with fail
          go_quiet (fail)
          obtain ⟨wY, hwY⟩ : ∃ wY, wY = wr := ⟨_, rfl⟩
          subst hwY
          go_wp2
          go_loopw [7] (fun v7 w4 => ∃ f : Nat, f ≤ x.2.length ∧ v7 = .int .i64 f ∧ Hid (Below W.heap.size W w4)) (fun v7 _ => x.2.length - (intOf v7).toNat)
          case atStart => exact ⟨0, Nat.zero_le _, rfl, Below.drewN' Hb3.out _⟩
          case round =>
            obtain ⟨f, hfl, rfl, Hb4⟩ := hrel
            clear x0 x1 y0 y1 BW ct ct'
            obtain ⟨x0, x1, y0, y1⟩ := HK.out _ Hb4.out
            have BW : Hid (Below w.heap.size w wr) := HB.out.trans (Hb4.out.mono HB.out.size)
            obtain ⟨⟨hf, q2, off2, eq2, ct⟩, hf', q2', off2', eq2', ct'⟩ := HF.out _ Hb4.out
            cases eq2
            cases eq2'
            by_cases hff : f < x.2.length
            · have hfi : (f : Int) < (x.2.length : Int) := by omega
              have hz : x.2[f]? = some (x.2[f]'hff) := List.getElem?_eq_getElem hff
              generalize x.2[f]'hff = u at hz
              have hz' : y.2[f]? = some (y.2[f]'(by have := Hxl.out; omega)) := List.getElem?_eq_getElem _
              generalize y.2[f]'(by have := Hxl.out; omega) = v at hz'
              have huv : u.2 = v.2 := by
                have h5 : (x.2.map (·.2))[f]? = some u.2 := by rw [List.getElem?_map, hz]; rfl
                have h6 : (y.2.map (·.2))[f]? = some v.2 := by rw [List.getElem?_map, hz']; rfl
                rw [Hxy.out, h6] at h5
                exact (Option.some.inj h5).symm
              have hul : u.2.length ≤ 4611686018427387904 := by
                have h9 := fsum_take (x.2.map (·.2)) (f + 1)
                rw [take_snocL (o := u.2) (by rw [List.getElem?_map, hz]; rfl), fsum_snoc] at h9
                have := Hfs.out
                omega
              obtain ⟨_, _, eu, hou⟩ := hf
              cases eu
              obtain ⟨hl1, q3, off3, rfl, -, cu⟩ := hou f u hz
              obtain ⟨_, _, ew, how⟩ := hf'
              rw [← Hxl.out] at ew
              cases ew
              obtain ⟨hl2, q4, off4, rfl, -, cv⟩ := how f v hz'
              rw [← huv] at hl2
              have hsi := fun (nn : Nat) => sameI16_eq n0 u.1 v.1 u.2 (wr.drewN nn) (hl1.below ⟨rfl, rfl, rfl, Nat.le_refl _, fun _ _ => rfl⟩) (hl2.below ⟨rfl, rfl, rfl, Nat.le_refl _, fun _ _ => rfl⟩) hul
              obtain ⟨au, cu', eu1, -⟩ := hl1
              obtain ⟨av, cv', ev1, -⟩ := hl2
              rw [eu1, ev1] at hsi
              rw [eu1] at cu
              rw [ev1] at cv
              clear hou how hz hz' huv eu1 ev1
              go_upto_region 16 with fail
              go_quiet ((go_at_call 22; exact Calls.quiet_of (hsi _)))
              clear hsi
              go_wp2
              go_roundw
              case rel => exact ⟨f + 1, by omega, by go_num, Below.drewN' Hb4.out _⟩
              case measure => simp [intOf]; omega
            · have hfi : ¬ (f : Int) < (x.2.length : Int) := by omega
              go_wp2
              go_roundw
              case rel => exact ⟨t + 1, by omega, by go_num, Hb4⟩
              case measure => simp [intOf]; omega
        · have hti : ¬ (t : Int) < (g.slots.length : Int) := by omega
          go_wp2
          go_ret
          exact ⟨rfl, BW.out⟩

end Go.Proofs.YtblbiikfipcbcaaGreatDoor

