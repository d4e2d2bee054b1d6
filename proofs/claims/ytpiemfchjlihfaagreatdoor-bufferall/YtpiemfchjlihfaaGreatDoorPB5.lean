/-
  plays: one call of a script. (Printed by mkPB5.py.)
-/
import Derived.Test.YtpiemfchjlihfaaGreatDoorPB4
set_option linter.unusedVariables false
set_option maxRecDepth 20000
namespace Go.Proofs.YtpiemfchjlihfaaGreatDoor
open Go.RowKit Go.Shelf

section
variable {n0 : Nat} {w : World} {pb b ab ag vb ga gr N rb : Nat} {g : Nat → Nat} {c : Cfg} {Th : List Ob} {lv : Value}

theorem obs_len13 {L : List Sg} : ∀ {ws : Nat → Int} {a top : Nat}, Chn ws a top L → (obs a L).length ≤ szs L := by
  induction L with
  | nil => intro ws a top h; simp [obs, szs]
  | cons g L ih =>
    intro ws a top h
    have h1 := ih h.2
    have h2 := h.1.pos
    simp only [obs, szs]
    split
    · simp only [List.length_cons]; omega
    · omega

set_option maxHeartbeats 8000000 in
theorem plays_put (S : Pz n0 w pb b ab ag vb ga gr N rb g c Th lv) (hn0 : n0 ≤ w.heap.size) (o : Op13) (ho : o.Ok) (hk : o.k = 1) :
    Calls Tryz.prog 9 #[.pointer (some ⟨pb, 0, none⟩), o.val] w fun e w' => e = .returned (.bool true) ∧ Below n0 w w' ∧ ∃ Th' lv', Pz n0 w' pb b ab ag vb ga gr N rb g c Th' lv' := by
  have HS0 : Hid (Pz n0 w pb b ab ag vb ga gr N rb g c Th lv) := S
  have Hn0 : Hid (n0 ≤ w.heap.size) := hn0
  have HO : Hid o.Ok := ho
  clear S hn0 ho
  go_enter Tryz.func9, Tryz.ntmps9
  go_upto_region 1 with fail
  have B0 : Below w.heap.size w (w.alloc (.cells o.cells 48)) := Below.alloc (Below.refl _ _) (Nat.le_refl _) _
  have X0 := heap_alloc_new w (.cells o.cells 48)
  generalize w.alloc (.cells o.cells 48) = v at *
  have HX : Hid (v.heap[w.heap.size]? = some (.cells o.cells 48 (0, 0))) := X0
  have HB : Hid (Below w.heap.size w v) := B0
  have HS : Hid (Pz n0 v pb b ab ag vb ga gr N rb g c Th lv) := HS0.out.below B0
  have Hoff : Hid (w.heap.size ∉ pf b ab ag vb ga gr rb g) := fun hm => Nat.lt_irrefl _ (HS0.out.lt_pf _ hm)
  have x0 : v.cell? ⟨w.heap.size, 0, none⟩ = some (.int .i64 1) := by rw [← hk]; exact cell_of_row _ _ 0 _ _ _ X0
  clear X0 B0
  go_upto_region 7 with fail
  clear x0
  have hXl : w.heap.size < v.heap.size := (Array.getElem?_eq_some_iff.1 HX.out).1
  have hPl : pb < v.heap.size := (Array.getElem?_eq_some_iff.1 HS.out.pq).1
  haveI hinh : Inhabited (Kg.Bel v) := ⟨⟨v, Below.refl _ _⟩⟩
  have o1 : ∀ q : Kg.Bel v, q.v.cell? ⟨w.heap.size, 1, none⟩ = some (.int .i64 o.t) := fun q => (q.h.cell (p := ⟨w.heap.size, 1, none⟩) hXl).trans (cell_of_row _ _ 1 _ _ _ HX.out)
  have o2 : ∀ q : Kg.Bel v, q.v.cell? ⟨w.heap.size, 2, none⟩ = some (.int .u64 o.s) := fun q => (q.h.cell (p := ⟨w.heap.size, 2, none⟩) hXl).trans (cell_of_row _ _ 2 _ _ _ HX.out)
  have o3 : ∀ q : Kg.Bel v, q.v.cell? ⟨w.heap.size, 3, none⟩ = some (.int .i64 o.kd) := fun q => (q.h.cell (p := ⟨w.heap.size, 3, none⟩) hXl).trans (cell_of_row _ _ 3 _ _ _ HX.out)
  have o4 : ∀ q : Kg.Bel v, q.v.cell? ⟨w.heap.size, 4, none⟩ = some (.int .i64 o.p) := fun q => (q.h.cell (p := ⟨w.heap.size, 4, none⟩) hXl).trans (cell_of_row _ _ 4 _ _ _ HX.out)
  have o5 : ∀ q : Kg.Bel v, q.v.cell? ⟨w.heap.size, 5, none⟩ = some (.int .i64 o.r) := fun q => (q.h.cell (p := ⟨w.heap.size, 5, none⟩) hXl).trans (cell_of_row _ _ 5 _ _ _ HX.out)
  have o6 : ∀ q : Kg.Bel v, q.v.cell? ⟨w.heap.size, 6, none⟩ = some (.int .i64 o.a) := fun q => (q.h.cell (p := ⟨w.heap.size, 6, none⟩) hXl).trans (cell_of_row _ _ 6 _ _ _ HX.out)
  have o7 : ∀ q : Kg.Bel v, q.v.cell? ⟨w.heap.size, 7, none⟩ = some (.int .i64 o.y) := fun q => (q.h.cell (p := ⟨w.heap.size, 7, none⟩) hXl).trans (cell_of_row _ _ 7 _ _ _ HX.out)
  have o8 : ∀ q : Kg.Bel v, q.v.cell? ⟨w.heap.size, 8, none⟩ = some (.bool o.h) := fun q => (q.h.cell (p := ⟨w.heap.size, 8, none⟩) hXl).trans (cell_of_row _ _ 8 _ _ _ HX.out)
  have p0 : ∀ q : Kg.Bel v, q.v.cell? ⟨pb, 0, none⟩ = some (.pointer (some ⟨ab, 0, none⟩)) := fun q => (q.h.cell (p := ⟨pb, 0, none⟩) hPl).trans (cell_of_row _ _ 0 _ _ _ HS.out.pq)
  have p1 : ∀ q : Kg.Bel v, q.v.cell? ⟨pb, 1, none⟩ = some (.pointer (some ⟨b, 0, none⟩)) := fun q => (q.h.cell (p := ⟨pb, 1, none⟩) hPl).trans (cell_of_row _ _ 1 _ _ _ HS.out.pq)
  refine Kg.below_call 12 Kg.mixed (by kernel_rfl) ?_
  simp only [List.take_succ_cons, List.take_zero, List.drop_succ_cons, List.drop_zero]
  repeat (go_big_quiet_step (fail))
  refine wpQuiet_nil ?_
  rintro w4 ⟨⟨w4, b4⟩, rfl⟩
  have HS4 : Hid (Pz n0 w4 pb b ab ag vb ga gr N rb g c Th lv) := HS.out.below b4
  have HB4 : Hid (Below w.heap.size w w4) := HB.out.trans (b4.mono HB.out.size)
  have HX4 : Hid (w4.heap[w.heap.size]? = some (.cells o.cells 48 (0, 0))) := (b4.block _ hXl).trans HX.out
  clear hXl hPl hinh o1 o2 o3 o4 o5 o6 o7 o8 p0 p1 b4
  obtain ⟨top, ws, B, at_, rs, L, hpc⟩ := HS4.out.pc
  obtain ⟨z, ok, q⟩ := hpc.putAny o.t o.s o.kd o.p o.r o.a o.y o.h HO.out.s
  clear hpc
  go_wp2_with fail
  refine q.mono ?_
  rintro e w5 ⟨rfl, t5, hnext⟩
  have Hnext : Hid _ := hnext
  have tin : ∀ q, q ∈ [b, ab, ag] → q ∈ pf b ab ag vb ga gr rb g := fun q hq => List.mem_append.2 (.inl hq)
  have t5' : Touch (pf b ab ag vb ga gr rb g) w4 w5 := (Touch.refl _ _).then t5 (fun z hz => .inl (tin z hz))
  have HT5 : Hid (Touch (pf b ab ag vb ga gr rb g) w4 w5) := t5'
  have HQ5 : Hid (w5.heap[pb]? = some (.cells #[.pointer (some ⟨ab, 0, none⟩), .pointer (some ⟨b, 0, none⟩), .pointer (some ⟨rb, 0, none⟩), .pointer (some ⟨vb, 0, none⟩), lv] 42 (0, 0))) := (HS4.out.frame t5 tin).1.trans HS4.out.pq
  have HX5 : Hid (w5.heap[w.heap.size]? = some (.cells o.cells 48 (0, 0))) := (t5.block _ (Array.getElem?_eq_some_iff.1 HX4.out).1 (fun hm => Hoff.out (tin _ hm))).trans HX4.out
  clear q hnext t5 t5' tin
  go_wp2_with fail
  refine Kg.thenQuiet_mk ?_
  repeat (go_big_quiet_step (fail))
  refine wpQuiet_nil ?_
  go_upto_region 8 with fail
  have hXl : w.heap.size < w5.heap.size := (Array.getElem?_eq_some_iff.1 HX5.out).1
  have hPl : pb < w5.heap.size := (Array.getElem?_eq_some_iff.1 HQ5.out).1
  haveI hinh : Inhabited (Kg.Bel w5) := ⟨⟨w5, Below.refl _ _⟩⟩
  have o1 : ∀ q : Kg.Bel w5, q.v.cell? ⟨w.heap.size, 1, none⟩ = some (.int .i64 o.t) := fun q => (q.h.cell (p := ⟨w.heap.size, 1, none⟩) hXl).trans (cell_of_row _ _ 1 _ _ _ HX5.out)
  have o2 : ∀ q : Kg.Bel w5, q.v.cell? ⟨w.heap.size, 2, none⟩ = some (.int .u64 o.s) := fun q => (q.h.cell (p := ⟨w.heap.size, 2, none⟩) hXl).trans (cell_of_row _ _ 2 _ _ _ HX5.out)
  have o3 : ∀ q : Kg.Bel w5, q.v.cell? ⟨w.heap.size, 3, none⟩ = some (.int .i64 o.kd) := fun q => (q.h.cell (p := ⟨w.heap.size, 3, none⟩) hXl).trans (cell_of_row _ _ 3 _ _ _ HX5.out)
  have o4 : ∀ q : Kg.Bel w5, q.v.cell? ⟨w.heap.size, 4, none⟩ = some (.int .i64 o.p) := fun q => (q.h.cell (p := ⟨w.heap.size, 4, none⟩) hXl).trans (cell_of_row _ _ 4 _ _ _ HX5.out)
  have o5 : ∀ q : Kg.Bel w5, q.v.cell? ⟨w.heap.size, 5, none⟩ = some (.int .i64 o.r) := fun q => (q.h.cell (p := ⟨w.heap.size, 5, none⟩) hXl).trans (cell_of_row _ _ 5 _ _ _ HX5.out)
  have o6 : ∀ q : Kg.Bel w5, q.v.cell? ⟨w.heap.size, 6, none⟩ = some (.int .i64 o.a) := fun q => (q.h.cell (p := ⟨w.heap.size, 6, none⟩) hXl).trans (cell_of_row _ _ 6 _ _ _ HX5.out)
  have o7 : ∀ q : Kg.Bel w5, q.v.cell? ⟨w.heap.size, 7, none⟩ = some (.int .i64 o.y) := fun q => (q.h.cell (p := ⟨w.heap.size, 7, none⟩) hXl).trans (cell_of_row _ _ 7 _ _ _ HX5.out)
  have o8 : ∀ q : Kg.Bel w5, q.v.cell? ⟨w.heap.size, 8, none⟩ = some (.bool o.h) := fun q => (q.h.cell (p := ⟨w.heap.size, 8, none⟩) hXl).trans (cell_of_row _ _ 8 _ _ _ HX5.out)
  have p2 : ∀ q : Kg.Bel w5, q.v.cell? ⟨pb, 2, none⟩ = some (.pointer (some ⟨rb, 0, none⟩)) := fun q => (q.h.cell (p := ⟨pb, 2, none⟩) hPl).trans (cell_of_row _ _ 2 _ _ _ HQ5.out)
  have p3 : ∀ q : Kg.Bel w5, q.v.cell? ⟨pb, 3, none⟩ = some (.pointer (some ⟨vb, 0, none⟩)) := fun q => (q.h.cell (p := ⟨pb, 3, none⟩) hPl).trans (cell_of_row _ _ 3 _ _ _ HQ5.out)
  refine Kg.below_call 12 Kg.mixed (by kernel_rfl) ?_
  simp only [List.take_succ_cons, List.take_zero, List.drop_succ_cons, List.drop_zero]
  repeat (go_big_quiet_step (fail))
  refine wpQuiet_nil ?_
  rintro w6 ⟨⟨w6, b6⟩, rfl⟩
  have q := Hnext.out w6 b6
  have HT6 : Hid (Touch (pf b ab ag vb ga gr rb g) w4 w6) := HT5.out.trans (Touch.of_below b6 _)
  clear hXl hPl hinh o1 o2 o3 o4 o5 o6 o7 o8 p2 p3 b6 Hnext HT5 HQ5 HX5
  go_wp2_with fail
  refine q.mono ?_
  rintro e w7 ⟨rfl, t7, top7, ws7, B7, at7, rs7, L7, Th7, hpc7, hcase⟩
  have HT7 : Hid (Touch (pf b ab ag vb ga gr rb g) w4 w7) := HT6.out.trans ((Touch.refl _ _).then t7 (fun z hz => .inl (List.mem_append.2 (.inr hz))))
  have HF7 : Hid (w7.heap[pb]? = w4.heap[pb]? ∧ w7.ownsRow n0 3 1 lv Th.length (ats Th)) := HS4.out.frame HT7.out (fun q hq => hq)
  have HP7 : Hid (Pc n0 w7 b ab ag vb ga gr N rb g c top7 ws7 B7 at7 rs7 L7 Th7) := hpc7
  have HB7 : Hid (Below n0 w w7) := (HB4.out.mono Hn0.out).trans (HT7.out.below (Nat.le_trans Hn0.out HB4.out.size) HS4.out.lo_pf)
  have HC7 : Hid ((ok = false ∧ Th7 = Th) ∨ (ok = true ∧ ∃ T : Ob, z = T.at_ ∧ Th7 = Th ++ [T])) := hcase
  clear q t7 hpc7 hcase HT6
  go_wp2_with fail
  refine Kg.thenQuiet_mk ?_
  repeat (go_big_quiet_step (fail))
  refine wpQuiet_nil ?_
  cases ok with
  | false =>
    have hTh : Th7 = Th := by
      rcases HC7.out with h | h
      · exact h.2
      · exact absurd h.1 (by decide)
    have HZ : Hid (Pz n0 w7 pb b ab ag vb ga gr N rb g c Th lv) := ⟨⟨top7, ws7, B7, at7, rs7, L7, hTh ▸ HP7.out⟩, HF7.out.1.trans HS4.out.pq, HF7.out.2, HS0.out.av, HS0.out.lo⟩
    clear hTh HC7
    go_wp2
    go_ret
    exact ⟨rfl, HB7.out, Th, lv, HZ.out⟩
  | true =>
    have hex : ∃ T : Ob, z = T.at_ ∧ Th7 = Th ++ [T] := by
      rcases HC7.out with h | h
      · exact absurd h.1 (by decide)
      · exact h.2
    obtain ⟨T, hz, hTh⟩ := hex
    have HP8 : Hid (∃ top ws B at_ rs L, Pc n0 w7 b ab ag vb ga gr N rb g c top ws B at_ rs L (Th ++ [T])) := ⟨top7, ws7, B7, at7, rs7, L7, hTh ▸ HP7.out⟩
    have Hz : Hid (z = T.at_) := hz
    have HQ7 : Hid (w7.heap[pb]? = some (.cells #[.pointer (some ⟨ab, 0, none⟩), .pointer (some ⟨b, 0, none⟩), .pointer (some ⟨rb, 0, none⟩), .pointer (some ⟨vb, 0, none⟩), lv] 42 (0, 0))) := HF7.out.1.trans HS4.out.pq
    clear hTh HC7 hz HP7
    have k4 : w7.cell? ⟨pb, 4, none⟩ = some lv := cell_of_row _ _ 4 _ _ _ HQ7.out
    have g4 : w7.frozen? ⟨pb, 4, none⟩ = false := by unfold World.frozen?; rw [HQ7.out]; rfl
    have hPl7 : pb < w7.heap.size := (Array.getElem?_eq_some_iff.1 HQ7.out).1
    obtain ⟨i0, hj, hy0, hy1, hy2⟩ := info_parts Tryz.infoInt
    have hro := HF7.out.2
    have hTl : Th.length ≤ 70000 := by
      obtain ⟨top, ws, B, at_, rs, L, hpc⟩ := HS4.out.pc
      have h1 := obs_len13 hpc.wo.ch
      have h2 := hpc.wo.ch.top
      have h3 := hpc.topl.1
      have h4 : (obs 1 L).length = Th.length := by have := hpc.wo.ob.length_eq; simpa using this
      omega
    have hnb : n0 ≤ w7.heap.size := Nat.le_trans Hn0.out HB7.out.size
    have hnP : some pb ≠ lv.ownBlock := row_ne HQ7.out hro (by decide)
    obtain ⟨a0, cap0, hlv⟩ := HS4.out.sl
    have Hlv : Hid (lv = .slice a0 Th.length cap0) := hlv
    clear hlv
    go_wp2_with (at_builtin; refine wpList_append_own_at _ rfl _ _ 40 rfl n0 3 i0 (.int .i64 0) 1 8 Tryz.underlying40 hj hy0 hy1 hy2 rfl (by decide) _ _ _ rfl (hro.alloc _) ⟨w7.heap.size, 0, none⟩ 1 1 [.int .i64 z] rfl rfl (cell_one_new _ _ _) (by simp [Value.oneCell']) (by simp [maxLen]; omega) (by omega) (by simp; omega) ?_)
    intro lv' w8 r8 hg8 _ ha8
    have d1 := grow_cell hg8 hPl7 k4 hnP
    have e1 := grow_frozen hg8 g4 hPl7 hnP
    rw [Hz.out] at r8
    obtain ⟨g8, cap8, rfl⟩ := ownsRow_succ r8
    obtain ⟨S9, b9⟩ := Pz.laid HP8.out HQ7.out HF7.out.2 HS0.out.av HS0.out.lo hnb (fun q hq => Nat.lt_of_lt_of_le (HS4.out.lt_pf q hq) HT7.out.size) hg8 r8 (by simpa using ha8)
    have HZ : Hid (Pz n0 (w8.setCell ⟨pb, 4, none⟩ (.slice (some ⟨g8, 0, none⟩) (Th.length + 1) cap8)) pb b ab ag vb ga gr N rb g c (Th ++ [T]) (.slice (some ⟨g8, 0, none⟩) (Th.length + 1) cap8)) := S9
    have HW : Hid (Below n0 w (w8.setCell ⟨pb, 4, none⟩ (.slice (some ⟨g8, 0, none⟩) (Th.length + 1) cap8))) := HB7.out.trans (b9.mono (Nat.le_refl _))
    clear S9 b9 r8 hg8 ha8 hro k4 g4
    go_wp2
    go_ret
    exact ⟨rfl, HW.out, _, _, HZ.out⟩

set_option maxHeartbeats 8000000 in
theorem plays_eden (S : Pz n0 w pb b ab ag vb ga gr N rb g c Th lv) (hn0 : n0 ≤ w.heap.size) (o : Op13) (ho : o.Ok) (hk : o.k = 5) :
    Calls Tryz.prog 9 #[.pointer (some ⟨pb, 0, none⟩), o.val] w fun e w' => e = .returned (.bool true) ∧ Below n0 w w' ∧ ∃ Th' lv', Pz n0 w' pb b ab ag vb ga gr N rb g c Th' lv' := by
  have HS0 : Hid (Pz n0 w pb b ab ag vb ga gr N rb g c Th lv) := S
  have Hn0 : Hid (n0 ≤ w.heap.size) := hn0
  have HO : Hid o.Ok := ho
  clear S hn0 ho
  go_enter Tryz.func9, Tryz.ntmps9
  go_upto_region 1 with fail
  have B0 : Below w.heap.size w (w.alloc (.cells o.cells 48)) := Below.alloc (Below.refl _ _) (Nat.le_refl _) _
  have X0 := heap_alloc_new w (.cells o.cells 48)
  generalize w.alloc (.cells o.cells 48) = v at *
  have HX : Hid (v.heap[w.heap.size]? = some (.cells o.cells 48 (0, 0))) := X0
  have HB : Hid (Below w.heap.size w v) := B0
  have HS : Hid (Pz n0 v pb b ab ag vb ga gr N rb g c Th lv) := HS0.out.below B0
  have Hoff : Hid (w.heap.size ∉ pf b ab ag vb ga gr rb g) := fun hm => Nat.lt_irrefl _ (HS0.out.lt_pf _ hm)
  have x0 : v.cell? ⟨w.heap.size, 0, none⟩ = some (.int .i64 5) := by rw [← hk]; exact cell_of_row _ _ 0 _ _ _ X0
  clear X0 B0
  go_upto_region 9 with fail
  clear x0
  have hXl : w.heap.size < v.heap.size := (Array.getElem?_eq_some_iff.1 HX.out).1
  have hPl : pb < v.heap.size := (Array.getElem?_eq_some_iff.1 HS.out.pq).1
  haveI hinh : Inhabited (Kg.Bel v) := ⟨⟨v, Below.refl _ _⟩⟩
  have o2 : ∀ q : Kg.Bel v, q.v.cell? ⟨w.heap.size, 2, none⟩ = some (.int .u64 o.s) := fun q => (q.h.cell (p := ⟨w.heap.size, 2, none⟩) hXl).trans (cell_of_row _ _ 2 _ _ _ HX.out)
  have o3 : ∀ q : Kg.Bel v, q.v.cell? ⟨w.heap.size, 3, none⟩ = some (.int .i64 o.kd) := fun q => (q.h.cell (p := ⟨w.heap.size, 3, none⟩) hXl).trans (cell_of_row _ _ 3 _ _ _ HX.out)
  have o4 : ∀ q : Kg.Bel v, q.v.cell? ⟨w.heap.size, 4, none⟩ = some (.int .i64 o.p) := fun q => (q.h.cell (p := ⟨w.heap.size, 4, none⟩) hXl).trans (cell_of_row _ _ 4 _ _ _ HX.out)
  have o5 : ∀ q : Kg.Bel v, q.v.cell? ⟨w.heap.size, 5, none⟩ = some (.int .i64 o.r) := fun q => (q.h.cell (p := ⟨w.heap.size, 5, none⟩) hXl).trans (cell_of_row _ _ 5 _ _ _ HX.out)
  have o6 : ∀ q : Kg.Bel v, q.v.cell? ⟨w.heap.size, 6, none⟩ = some (.int .i64 o.a) := fun q => (q.h.cell (p := ⟨w.heap.size, 6, none⟩) hXl).trans (cell_of_row _ _ 6 _ _ _ HX.out)
  have o7 : ∀ q : Kg.Bel v, q.v.cell? ⟨w.heap.size, 7, none⟩ = some (.int .i64 o.y) := fun q => (q.h.cell (p := ⟨w.heap.size, 7, none⟩) hXl).trans (cell_of_row _ _ 7 _ _ _ HX.out)
  have o8 : ∀ q : Kg.Bel v, q.v.cell? ⟨w.heap.size, 8, none⟩ = some (.bool o.h) := fun q => (q.h.cell (p := ⟨w.heap.size, 8, none⟩) hXl).trans (cell_of_row _ _ 8 _ _ _ HX.out)
  have p0 : ∀ q : Kg.Bel v, q.v.cell? ⟨pb, 0, none⟩ = some (.pointer (some ⟨ab, 0, none⟩)) := fun q => (q.h.cell (p := ⟨pb, 0, none⟩) hPl).trans (cell_of_row _ _ 0 _ _ _ HS.out.pq)
  refine Kg.below_call 6 Kg.mixed (by kernel_rfl) ?_
  simp only [List.take_succ_cons, List.take_zero, List.drop_succ_cons, List.drop_zero]
  repeat (go_big_quiet_step (fail))
  refine wpQuiet_nil ?_
  rintro w4 ⟨⟨w4, b4⟩, rfl⟩
  have HS4 : Hid (Pz n0 w4 pb b ab ag vb ga gr N rb g c Th lv) := HS.out.below b4
  have HB4 : Hid (Below w.heap.size w w4) := HB.out.trans (b4.mono HB.out.size)
  have HX4 : Hid (w4.heap[w.heap.size]? = some (.cells o.cells 48 (0, 0))) := (b4.block _ hXl).trans HX.out
  clear hXl hPl hinh o2 o3 o4 o5 o6 o7 o8 p0 b4
  obtain ⟨top, ws, B, at_, rs, L, hpc⟩ := HS4.out.pc
  obtain ⟨z, ok, q⟩ := hpc.edenAny o.s o.kd o.p o.r o.a o.y o.h HO.out.s
  clear hpc
  go_wp2_with fail
  refine q.mono ?_
  rintro e w5 ⟨rfl, t5, hnext⟩
  have Hnext : Hid _ := hnext
  have tin : ∀ q, q ∈ [b, ab, ag] → q ∈ pf b ab ag vb ga gr rb g := fun q hq => List.mem_append.2 (.inl hq)
  have t5' : Touch (pf b ab ag vb ga gr rb g) w4 w5 := (Touch.refl _ _).then t5 (fun z hz => .inl (tin z hz))
  have HT5 : Hid (Touch (pf b ab ag vb ga gr rb g) w4 w5) := t5'
  have HQ5 : Hid (w5.heap[pb]? = some (.cells #[.pointer (some ⟨ab, 0, none⟩), .pointer (some ⟨b, 0, none⟩), .pointer (some ⟨rb, 0, none⟩), .pointer (some ⟨vb, 0, none⟩), lv] 42 (0, 0))) := (HS4.out.frame t5 tin).1.trans HS4.out.pq
  have HX5 : Hid (w5.heap[w.heap.size]? = some (.cells o.cells 48 (0, 0))) := (t5.block _ (Array.getElem?_eq_some_iff.1 HX4.out).1 (fun hm => Hoff.out (tin _ hm))).trans HX4.out
  clear q hnext t5 t5' tin
  go_wp2_with fail
  refine Kg.thenQuiet_mk ?_
  repeat (go_big_quiet_step (fail))
  refine wpQuiet_nil ?_
  go_upto_region 10 with fail
  have hXl : w.heap.size < w5.heap.size := (Array.getElem?_eq_some_iff.1 HX5.out).1
  have hPl : pb < w5.heap.size := (Array.getElem?_eq_some_iff.1 HQ5.out).1
  haveI hinh : Inhabited (Kg.Bel w5) := ⟨⟨w5, Below.refl _ _⟩⟩
  have o2 : ∀ q : Kg.Bel w5, q.v.cell? ⟨w.heap.size, 2, none⟩ = some (.int .u64 o.s) := fun q => (q.h.cell (p := ⟨w.heap.size, 2, none⟩) hXl).trans (cell_of_row _ _ 2 _ _ _ HX5.out)
  have o3 : ∀ q : Kg.Bel w5, q.v.cell? ⟨w.heap.size, 3, none⟩ = some (.int .i64 o.kd) := fun q => (q.h.cell (p := ⟨w.heap.size, 3, none⟩) hXl).trans (cell_of_row _ _ 3 _ _ _ HX5.out)
  have o4 : ∀ q : Kg.Bel w5, q.v.cell? ⟨w.heap.size, 4, none⟩ = some (.int .i64 o.p) := fun q => (q.h.cell (p := ⟨w.heap.size, 4, none⟩) hXl).trans (cell_of_row _ _ 4 _ _ _ HX5.out)
  have o5 : ∀ q : Kg.Bel w5, q.v.cell? ⟨w.heap.size, 5, none⟩ = some (.int .i64 o.r) := fun q => (q.h.cell (p := ⟨w.heap.size, 5, none⟩) hXl).trans (cell_of_row _ _ 5 _ _ _ HX5.out)
  have o6 : ∀ q : Kg.Bel w5, q.v.cell? ⟨w.heap.size, 6, none⟩ = some (.int .i64 o.a) := fun q => (q.h.cell (p := ⟨w.heap.size, 6, none⟩) hXl).trans (cell_of_row _ _ 6 _ _ _ HX5.out)
  have o7 : ∀ q : Kg.Bel w5, q.v.cell? ⟨w.heap.size, 7, none⟩ = some (.int .i64 o.y) := fun q => (q.h.cell (p := ⟨w.heap.size, 7, none⟩) hXl).trans (cell_of_row _ _ 7 _ _ _ HX5.out)
  have o8 : ∀ q : Kg.Bel w5, q.v.cell? ⟨w.heap.size, 8, none⟩ = some (.bool o.h) := fun q => (q.h.cell (p := ⟨w.heap.size, 8, none⟩) hXl).trans (cell_of_row _ _ 8 _ _ _ HX5.out)
  have p2 : ∀ q : Kg.Bel w5, q.v.cell? ⟨pb, 2, none⟩ = some (.pointer (some ⟨rb, 0, none⟩)) := fun q => (q.h.cell (p := ⟨pb, 2, none⟩) hPl).trans (cell_of_row _ _ 2 _ _ _ HQ5.out)
  refine Kg.below_call 6 Kg.mixed (by kernel_rfl) ?_
  simp only [List.take_succ_cons, List.take_zero, List.drop_succ_cons, List.drop_zero]
  repeat (go_big_quiet_step (fail))
  refine wpQuiet_nil ?_
  rintro w6 ⟨⟨w6, b6⟩, rfl⟩
  have q := Hnext.out w6 b6
  have HT6 : Hid (Touch (pf b ab ag vb ga gr rb g) w4 w6) := HT5.out.trans (Touch.of_below b6 _)
  clear hXl hPl hinh o2 o3 o4 o5 o6 o7 o8 p2 b6 Hnext HT5 HQ5 HX5
  go_wp2_with fail
  refine q.mono ?_
  rintro e w7 ⟨rfl, t7, top7, ws7, B7, at7, rs7, L7, Th7, hpc7, hcase⟩
  have HT7 : Hid (Touch (pf b ab ag vb ga gr rb g) w4 w7) := HT6.out.trans ((Touch.refl _ _).then t7 (fun z hz => .inl (List.mem_append.2 (.inr hz))))
  have HF7 : Hid (w7.heap[pb]? = w4.heap[pb]? ∧ w7.ownsRow n0 3 1 lv Th.length (ats Th)) := HS4.out.frame HT7.out (fun q hq => hq)
  have HP7 : Hid (Pc n0 w7 b ab ag vb ga gr N rb g c top7 ws7 B7 at7 rs7 L7 Th7) := hpc7
  have HB7 : Hid (Below n0 w w7) := (HB4.out.mono Hn0.out).trans (HT7.out.below (Nat.le_trans Hn0.out HB4.out.size) HS4.out.lo_pf)
  have HC7 : Hid ((ok = false ∧ Th7 = Th) ∨ (ok = true ∧ ∃ T : Ob, z = T.at_ ∧ Th7 = Th ++ [T])) := hcase
  clear q t7 hpc7 hcase HT6
  go_wp2_with fail
  refine Kg.thenQuiet_mk ?_
  repeat (go_big_quiet_step (fail))
  refine wpQuiet_nil ?_
  cases ok with
  | false =>
    have hTh : Th7 = Th := by
      rcases HC7.out with h | h
      · exact h.2
      · exact absurd h.1 (by decide)
    have HZ : Hid (Pz n0 w7 pb b ab ag vb ga gr N rb g c Th lv) := ⟨⟨top7, ws7, B7, at7, rs7, L7, hTh ▸ HP7.out⟩, HF7.out.1.trans HS4.out.pq, HF7.out.2, HS0.out.av, HS0.out.lo⟩
    clear hTh HC7
    go_wp2
    go_ret
    exact ⟨rfl, HB7.out, Th, lv, HZ.out⟩
  | true =>
    have hex : ∃ T : Ob, z = T.at_ ∧ Th7 = Th ++ [T] := by
      rcases HC7.out with h | h
      · exact absurd h.1 (by decide)
      · exact h.2
    obtain ⟨T, hz, hTh⟩ := hex
    have HP8 : Hid (∃ top ws B at_ rs L, Pc n0 w7 b ab ag vb ga gr N rb g c top ws B at_ rs L (Th ++ [T])) := ⟨top7, ws7, B7, at7, rs7, L7, hTh ▸ HP7.out⟩
    have Hz : Hid (z = T.at_) := hz
    have HQ7 : Hid (w7.heap[pb]? = some (.cells #[.pointer (some ⟨ab, 0, none⟩), .pointer (some ⟨b, 0, none⟩), .pointer (some ⟨rb, 0, none⟩), .pointer (some ⟨vb, 0, none⟩), lv] 42 (0, 0))) := HF7.out.1.trans HS4.out.pq
    clear hTh HC7 hz HP7
    have k4 : w7.cell? ⟨pb, 4, none⟩ = some lv := cell_of_row _ _ 4 _ _ _ HQ7.out
    have g4 : w7.frozen? ⟨pb, 4, none⟩ = false := by unfold World.frozen?; rw [HQ7.out]; rfl
    have hPl7 : pb < w7.heap.size := (Array.getElem?_eq_some_iff.1 HQ7.out).1
    obtain ⟨i0, hj, hy0, hy1, hy2⟩ := info_parts Tryz.infoInt
    have hro := HF7.out.2
    have hTl : Th.length ≤ 70000 := by
      obtain ⟨top, ws, B, at_, rs, L, hpc⟩ := HS4.out.pc
      have h1 := obs_len13 hpc.wo.ch
      have h2 := hpc.wo.ch.top
      have h3 := hpc.topl.1
      have h4 : (obs 1 L).length = Th.length := by have := hpc.wo.ob.length_eq; simpa using this
      omega
    have hnb : n0 ≤ w7.heap.size := Nat.le_trans Hn0.out HB7.out.size
    have hnP : some pb ≠ lv.ownBlock := row_ne HQ7.out hro (by decide)
    obtain ⟨a0, cap0, hlv⟩ := HS4.out.sl
    have Hlv : Hid (lv = .slice a0 Th.length cap0) := hlv
    clear hlv
    go_wp2_with (at_builtin; refine wpList_append_own_at _ rfl _ _ 40 rfl n0 3 i0 (.int .i64 0) 1 8 Tryz.underlying40 hj hy0 hy1 hy2 rfl (by decide) _ _ _ rfl (hro.alloc _) ⟨w7.heap.size, 0, none⟩ 1 1 [.int .i64 z] rfl rfl (cell_one_new _ _ _) (by simp [Value.oneCell']) (by simp [maxLen]; omega) (by omega) (by simp; omega) ?_)
    intro lv' w8 r8 hg8 _ ha8
    have d1 := grow_cell hg8 hPl7 k4 hnP
    have e1 := grow_frozen hg8 g4 hPl7 hnP
    rw [Hz.out] at r8
    obtain ⟨g8, cap8, rfl⟩ := ownsRow_succ r8
    obtain ⟨S9, b9⟩ := Pz.laid HP8.out HQ7.out HF7.out.2 HS0.out.av HS0.out.lo hnb (fun q hq => Nat.lt_of_lt_of_le (HS4.out.lt_pf q hq) HT7.out.size) hg8 r8 (by simpa using ha8)
    have HZ : Hid (Pz n0 (w8.setCell ⟨pb, 4, none⟩ (.slice (some ⟨g8, 0, none⟩) (Th.length + 1) cap8)) pb b ab ag vb ga gr N rb g c (Th ++ [T]) (.slice (some ⟨g8, 0, none⟩) (Th.length + 1) cap8)) := S9
    have HW : Hid (Below n0 w (w8.setCell ⟨pb, 4, none⟩ (.slice (some ⟨g8, 0, none⟩) (Th.length + 1) cap8))) := HB7.out.trans (b9.mono (Nat.le_refl _))
    clear S9 b9 r8 hg8 ha8 hro k4 g4
    go_wp2
    go_ret
    exact ⟨rfl, HW.out, _, _, HZ.out⟩

end
end Go.Proofs.YtpiemfchjlihfaaGreatDoor
