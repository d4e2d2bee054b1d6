import Derived.Test.YtkekaifiahjljaaGreatDoorC21
import Derived.Test.YtkekaifiahjljaaGreatDoorC22
import Derived.Test.YtkekaifiahjljaaGreatDoorC20
import Derived.Deep.RegionHeld3
set_option linter.unusedVariables false
set_option maxHeartbeats 8000000
set_option maxRecDepth 20000
namespace Go.Proofs.YtkekaifiahjljaaGreatDoor
open Go.RowKit Go.Shelf Go.Proofs.YtkekaifiahjljaaGreatDoor.Lt
structure Tri (w : World) (B A pb m : Nat) (v0 v2 : Value) (l0 l2 : List Int) (f : Nat → Int) : Prop where
  h : w.heap[A]? = some (.cells #[v0, .slice (some ⟨pb, 0, none⟩) m m, v2, .slice none 0 0] 95 (0, 0))
  s : Il w B v0 l0
  b : Il w B v2 l2
  a : Fy w pb m f
  ne : ∀ j, v0.ownBlock = some j → v2.ownBlock ≠ some j ∧ j ≠ pb
  nb : ∀ j, v2.ownBlock = some j → j ≠ pb
  lo : B ≤ A ∧ B ≤ pb
  sz : B ≤ w.heap.size
def triF (A pb : Nat) (v0 v2 : Value) : List Nat := A :: pb :: (v0.ownBlock.toList ++ v2.ownBlock.toList)
theorem Tri.ap {w : World} {B A pb m : Nat} {v0 v2 : Value} {l0 l2 : List Int} {f : Nat → Int} (R : Tri w B A pb m v0 v2 l0 l2 f) : A ≠ pb := fun e => by
  obtain ⟨cs', q1, -⟩ := R.a.ex
  rw [← e, R.h] at q1
  simp only [Option.some.injEq, Obj.cells.injEq] at q1
  exact absurd q1.2.1 (by decide)
theorem Tri.mem {w : World} {B A pb m : Nat} {v0 v2 : Value} {l0 l2 : List Int} {f : Nat → Int} (R : Tri w B A pb m v0 v2 l0 l2 f) : ∀ k, k ∈ triF A pb v0 v2 → B ≤ k ∧ k < w.heap.size := fun k hk => by
  simp only [triF, List.mem_cons, List.mem_append, Option.mem_toList] at hk
  rcases hk with rfl | rfl | h1 | h1
  · exact ⟨R.lo.1, Kg.heap_lt R.h⟩
  · exact ⟨R.lo.2, R.a.lt⟩
  · exact World.ownsRow.lt R.s k h1
  · exact World.ownsRow.lt R.b k h1
theorem Tri.keep {w w' : World} {B A pb m : Nat} {v0 v2 : Value} {l0 l2 : List Int} {f : Nat → Int} {G : List Nat} (R : Tri w B A pb m v0 v2 l0 l2 f) (ht : Kg.Touch G w w') (hG : ∀ k, k ∈ triF A pb v0 v2 → k ∉ G) : Tri w' B A pb m v0 v2 l0 l2 f := by
  have key : ∀ k, (k = A ∨ k = pb ∨ v0.ownBlock = some k ∨ v2.ownBlock = some k) → k ∉ G := fun k hk => hG k (by simp only [triF, List.mem_cons, List.mem_append, Option.mem_toList]; exact hk)
  exact ⟨(ht.block _ (Kg.heap_lt R.h) (key A (.inl rfl))).trans R.h, Kg.row_keep2 R.s ht (fun k hk => key k (.inr (.inr (.inl hk)))), Kg.row_keep2 R.b ht (fun k hk => key k (.inr (.inr (.inr hk)))), R.a.touch ht (key pb (.inr (.inl rfl))), R.ne, R.nb, R.lo, Nat.le_trans R.sz ht.size⟩
theorem Tri.set {w : World} {B A pb m : Nat} {v0 v2 : Value} {l0 l2 : List Int} {f : Nat → Int} (R : Tri w B A pb m v0 v2 l0 l2 f) {x : Nat} (hx : x < m) (z : Int) : Tri (w.setCell ⟨pb, x, none⟩ (.int .i64 z)) B A pb m v0 v2 l0 l2 (fun y => if y = x then z else f y) := by
  have t : Kg.Touch [pb] w (w.setCell ⟨pb, x, none⟩ (.int .i64 z)) := Kg.Touch.setCell _ _ _ (by simp)
  exact ⟨(t.block _ (Kg.heap_lt R.h) (by simpa using R.ap)).trans R.h, Kg.row_keep2 R.s t (fun k hk => by simpa using (R.ne k hk).2), Kg.row_keep2 R.b t (fun k hk => by simpa using R.nb k hk), R.a.set hx z, R.ne, R.nb, R.lo, Nat.le_trans R.sz t.size⟩
theorem Tri.push0 {w w8 : World} {B A pb m : Nat} {v0 v2 v8 : Value} {l0 l2 : List Int} {f : Nat → Int} {x : Int} (R : Tri w B A pb m v0 v2 l0 l2 f) (h8 : w8.ownsRow B 3 1 v8 (l0.length + 1) (Kg.ints l0 ++ [.int .i64 x]))
    (g8 : (w.alloc (.cells #[.int .i64 x] 3)).grownBy w8 v0.ownBlock) (e8 : v8.ownBlock = v0.ownBlock ∨ v8.ownBlock = some (w.alloc (.cells #[.int .i64 x] 3)).heap.size) :
    ∃ a8 c8, v8 = .slice a8 (l0.length + 1) c8 ∧ w8.cell? ⟨A, 0, none⟩ = some v0 ∧ w8.frozen? ⟨A, 0, none⟩ = false ∧ Hid (Tri (w8.setCell ⟨A, 0, none⟩ v8) B A pb m v8 v2 (l0 ++ [x]) l2 f ∧ Kg.Touch (triF A pb v0 v2) w (w8.setCell ⟨A, 0, none⟩ v8) ∧ Kg.Newer w.heap.size (triF A pb v0 v2) (triF A pb v8 v2)) := by
  obtain ⟨a8, c8, e1, e2, e3, e4⟩ := fld_push (j := 0) R.h R.s rfl R.sz h8 g8 e8
  refine ⟨a8, c8, e1, e2, e3, ?_⟩
  obtain ⟨n1, n2, n3, n4⟩ := e4.out
  have hdis : ∀ j, v2.ownBlock = some j → v0.ownBlock ≠ some j := fun j h1 h2 => (R.ne j h2).1 h1
  have hab : ∀ j, v0.ownBlock = some j → j ≠ pb := fun j h1 => (R.ne j h1).2
  have hkeep : ∀ j, v2.ownBlock = some j → j ∉ A :: v0.ownBlock.toList := fun j hj hm => by
    rcases List.mem_cons.1 hm with h1 | h1
    · exact absurd (by rw [hj, h1]) (Kg.row_ne R.h R.b (by decide)).symm
    · rw [Option.mem_toList] at h1
      exact hdis j hj h1
  have hAab : pb ∉ A :: v0.ownBlock.toList := fun hm => by
    rcases List.mem_cons.1 hm with h1 | h1
    · obtain ⟨cs', q1, -⟩ := R.a.ex
      rw [h1, R.h] at q1
      simp only [Option.some.injEq, Obj.cells.injEq] at q1
      exact absurd q1.2.1 (by decide)
    · rw [Option.mem_toList] at h1
      exact hab pb h1 rfl
  have hnew : ∀ j, v8.ownBlock = some j → v2.ownBlock ≠ some j ∧ j ≠ pb := fun j hj => by
    rcases n4 with h1 | h1
    · rw [h1] at hj
      exact ⟨fun h => hdis j h hj, hab j hj⟩
    · rw [h1] at hj
      cases hj
      refine ⟨fun h => ?_, ?_⟩
      · have := (World.ownsRow.lt R.b _ h).2
        omega
      · have := R.a.lt
        omega
  have ht : Kg.Touch (triF A pb v0 v2) w (w8.setCell ⟨A, 0, none⟩ v8) := n3.mono (fun k hk => .inl (by
    rcases List.mem_cons.1 hk with h1 | h1
    · simp [triF, h1]
    · simp only [triF, List.mem_cons, List.mem_append]
      exact .inr (.inr (.inl h1))))
  have hw : Kg.Newer w.heap.size (triF A pb v0 v2) (triF A pb v8 v2) := fun k hk => by
    simp only [triF, List.mem_cons, List.mem_append, Option.mem_toList] at hk ⊢
    rcases hk with h1 | h1 | h1 | h1
    · exact .inl (.inl h1)
    · exact .inl (.inr (.inl h1))
    · rcases n4 with h2 | h2
      · exact .inl (.inr (.inr (.inl (by rw [← h2]; exact h1))))
      · rw [h2] at h1; cases h1; exact .inr (by omega)
    · exact .inl (.inr (.inr (.inr h1)))
  exact ⟨⟨n1, n2, Kg.row_keep2 R.b n3 hkeep, R.a.touch n3 hAab, hnew, R.nb, R.lo, Nat.le_trans R.sz n3.size⟩, ht, hw⟩
theorem Tri.push2 {w w8 : World} {B A pb m : Nat} {v0 v2 v8 : Value} {l0 l2 : List Int} {f : Nat → Int} {x : Int} (R : Tri w B A pb m v0 v2 l0 l2 f) (h8 : w8.ownsRow B 3 1 v8 (l2.length + 1) (Kg.ints l2 ++ [.int .i64 x]))
    (g8 : (w.alloc (.cells #[.int .i64 x] 3)).grownBy w8 v2.ownBlock) (e8 : v8.ownBlock = v2.ownBlock ∨ v8.ownBlock = some (w.alloc (.cells #[.int .i64 x] 3)).heap.size) :
    ∃ a8 c8, v8 = .slice a8 (l2.length + 1) c8 ∧ w8.cell? ⟨A, 2, none⟩ = some v2 ∧ w8.frozen? ⟨A, 2, none⟩ = false ∧ Hid (Tri (w8.setCell ⟨A, 2, none⟩ v8) B A pb m v0 v8 l0 (l2 ++ [x]) f ∧ Kg.Touch (triF A pb v0 v2) w (w8.setCell ⟨A, 2, none⟩ v8) ∧ Kg.Newer w.heap.size (triF A pb v0 v2) (triF A pb v0 v8)) := by
  obtain ⟨a8, c8, e1, e2, e3, e4⟩ := fld_push (j := 2) R.h R.b rfl R.sz h8 g8 e8
  refine ⟨a8, c8, e1, e2, e3, ?_⟩
  obtain ⟨n1, n2, n3, n4⟩ := e4.out
  have hdis : ∀ j, v0.ownBlock = some j → v2.ownBlock ≠ some j := fun j h1 h2 => (R.ne j h1).1 h2
  have hab : ∀ j, v2.ownBlock = some j → j ≠ pb := fun j h1 => R.nb j h1
  have hkeep : ∀ j, v0.ownBlock = some j → j ∉ A :: v2.ownBlock.toList := fun j hj hm => by
    rcases List.mem_cons.1 hm with h1 | h1
    · exact absurd (by rw [hj, h1]) (Kg.row_ne R.h R.s (by decide)).symm
    · rw [Option.mem_toList] at h1
      exact hdis j hj h1
  have hAab : pb ∉ A :: v2.ownBlock.toList := fun hm => by
    rcases List.mem_cons.1 hm with h1 | h1
    · obtain ⟨cs', q1, -⟩ := R.a.ex
      rw [h1, R.h] at q1
      simp only [Option.some.injEq, Obj.cells.injEq] at q1
      exact absurd q1.2.1 (by decide)
    · rw [Option.mem_toList] at h1
      exact hab pb h1 rfl
  have hnew : ∀ j, v8.ownBlock = some j → v0.ownBlock ≠ some j ∧ j ≠ pb := fun j hj => by
    rcases n4 with h1 | h1
    · rw [h1] at hj
      exact ⟨fun h => hdis j h hj, hab j hj⟩
    · rw [h1] at hj
      cases hj
      refine ⟨fun h => ?_, ?_⟩
      · have := (World.ownsRow.lt R.s _ h).2
        omega
      · have := R.a.lt
        omega
  have ht : Kg.Touch (triF A pb v0 v2) w (w8.setCell ⟨A, 2, none⟩ v8) := n3.mono (fun k hk => .inl (by
    rcases List.mem_cons.1 hk with h1 | h1
    · simp [triF, h1]
    · simp only [triF, List.mem_cons, List.mem_append]
      exact .inr (.inr (.inr h1))))
  have hw : Kg.Newer w.heap.size (triF A pb v0 v2) (triF A pb v0 v8) := fun k hk => by
    simp only [triF, List.mem_cons, List.mem_append, Option.mem_toList] at hk ⊢
    rcases hk with h1 | h1 | h1 | h1
    · exact .inl (.inl h1)
    · exact .inl (.inr (.inl h1))
    · exact .inl (.inr (.inr (.inl h1)))
    · rcases n4 with h2 | h2
      · exact .inl (.inr (.inr (.inr (by rw [← h2]; exact h1))))
      · rw [h2] at h1; cases h1; exact .inr (by omega)
  exact ⟨⟨n1, Kg.row_keep2 R.s n3 hkeep, n2, R.a.touch n3 hAab, fun j hj => ⟨fun h => (hnew j h).1 hj, (R.ne j hj).2⟩, fun j hj => (hnew j hj).2, R.lo, Nat.le_trans R.sz n3.size⟩, ht, hw⟩
def plv (ord : List Nat) (y : Nat) : Int := if y ∈ ord then (ord.idxOf y : Int) else -1
theorem plv_snoc {ord : List Nat} {x : Nat} (hx : x ∉ ord) : (fun y => if y = x then (ord.length : Int) else plv ord y) = plv (ord ++ [x]) := by
  funext y
  unfold plv
  by_cases e : y = x
  · subst e
    rw [if_pos rfl, if_pos (by simp), List.idxOf_append, if_neg hx]
    simp
  · rw [if_neg e]
    by_cases h : y ∈ ord
    · rw [if_pos h, if_pos (by simp [h]), List.idxOf_append, if_pos h]
    · rw [if_neg h, if_neg (by simp [h, e])]
theorem plv_neg {ord : List Nat} {y : Nat} : plv ord y = -1 ↔ y ∉ ord := by
  unfold plv
  by_cases h : y ∈ ord
  · rw [if_pos h]
    exact ⟨fun e => by omega, fun e => absurd h e⟩
  · rw [if_neg h]
    exact ⟨fun _ => h, fun _ => rfl⟩
def Dv (ord frs : List Nat) (B A pb m : Nat) (w : World) (F : List Nat) : Prop :=
  ∃ v0 v2, Tri w B A pb m v0 v2 (ord.map Int.ofNat) (frs.map Int.ofNat) (plv ord) ∧ F = triF A pb v0 v2
theorem meet_any (B A pb m : Nat) (hm : m ≤ 2000000) (ord frs : List Nat) (hol : ord.length ≤ m) (hfl : frs.length ≤ m) (x : Nat × Nat) (hx : x.2 < m) (hxo : x.2 ∉ ord) (w : World) (F : List Nat) (h : Dv ord frs B A pb m w F) :
    Calls Tryz.prog 107 #[.pointer (some ⟨A, 0, none⟩), .agg (stc x)] w fun e w' => e = .returned (.int .i64 (ord.length : Nat)) ∧ ∃ F', Dv (ord ++ [x.2]) (frs ++ [x.1]) B A pb m w' F' ∧ Kg.Touch F w w' ∧ Kg.Newer w.heap.size F F' := by
  obtain ⟨v0, v2, R, rfl⟩ := h
  obtain ⟨i0, hi0, hj0, hj1, hj2⟩ := info_p17 infoI17
  have HI : Hid (Tryz.prog.info? 3 = some i0 ∧ i0.zero = some (.int .i64 0) ∧ i0.size = 1 ∧ i0.bytes = 8) := ⟨hi0, hj0, hj1, hj2⟩
  clear hi0 hj0 hj1 hj2
  have b1 : Below w.heap.size w (w.alloc (.cells (stc x) 135)) := Below.alloc (Below.refl _ _) (Nat.le_refl _) _
  have h1 := heap_alloc_new w (.cells (stc x) 135 (0, 0))
  have HR1 : Hid (Tri (w.alloc (.cells (stc x) 135)) B A pb m v0 v2 (ord.map Int.ofNat) (frs.map Int.ofNat) (plv ord)) := R.keep (Kg.Touch.of_below b1 []) (fun _ _ => by simp)
  have HM : Hid (∀ k, k ∈ triF A pb v0 v2 → B ≤ k ∧ k < w.heap.size) := R.mem
  obtain ⟨a0, n0, e0⟩ := own_sl17 R.s
  obtain ⟨a2, n2, e2⟩ := own_sl17 R.b
  rw [List.length_map] at e0 e2
  subst e0 e2
  clear R
  go_enter Tryz.func107, Tryz.ntmps107
  go_upto_region 1 with fail
  change Code.wp _ _ _ _ (w.alloc (.cells (stc x) 135))
  obtain ⟨S, hS⟩ : ∃ S, S = w.heap.size := ⟨_, rfl⟩
  rw [← hS] at h1 b1 ⊢
  have HS : Hid (S = w.heap.size) := hS
  have HB1 : Hid (Below S w (w.alloc (.cells (stc x) 135))) := b1
  have HX1 : Hid ((w.alloc (.cells (stc x) 135)).heap[S]? = some (.cells (stc x) 135 (0, 0))) := h1
  clear hS b1 h1
  generalize w.alloc (.cells (stc x) 135) = w1 at *
  have c0 := Kg.heap_cell HR1.out.h 0
  have c1 := Kg.heap_cell HR1.out.h 1
  have k0 := Kg.heap_cell HX1.out 0
  have k1 := Kg.heap_cell HX1.out 1
  simp only [List.getElem?_toArray, List.getElem?_cons_zero, List.getElem?_cons_succ] at c0 c1 k0 k1
  have cp := HR1.out.a.cell hx
  have zp := HR1.out.a.frozen x.2
  have hxi : (x.2 : Int) < (m : Int) := by omega
  go_upto_region 2 with fail
  refine Kg.quiet_tail 8 Kg.mixed (by kernel_rfl) ?_
  simp only [List.take_succ_cons, List.take_zero, List.drop_succ_cons, List.drop_zero]
  repeat (go_big_quiet_step (fail))
  refine wpQuiet_nil ?_
  have HR2 : Hid (Tri (w1.setCell ⟨pb, x.2, none⟩ (.int .i64 (ord.length : Nat))).drew B A pb m (.slice a0 ord.length n0) (.slice a2 frs.length n2) (ord.map Int.ofNat) (frs.map Int.ofNat) (plv (ord ++ [x.2]))) := by
    have h9 := (HR1.out.set hx (ord.length : Nat)).keep (Kg.Touch.drew [] _) (fun _ _ => by simp)
    rw [plv_snoc hxo] at h9
    exact h9
  have hSp : S ≠ pb := fun e => by have := HM.out pb (by simp [triF]); have := HS.out; omega
  have T2 : Kg.Touch [pb] w1 (w1.setCell ⟨pb, x.2, none⟩ (.int .i64 (ord.length : Nat))).drew := (Kg.Touch.setCell _ _ _ (by simp)).trans (Kg.Touch.drew _ _)
  have HX2 : Hid ((w1.setCell ⟨pb, x.2, none⟩ (.int .i64 (ord.length : Nat))).drew.heap[S]? = some (.cells (stc x) 135 (0, 0))) := (T2.block _ (Kg.heap_lt HX1.out) (by simpa using hSp)).trans HX1.out
  have HT2 : Hid (Kg.Touch (triF A pb (.slice a0 ord.length n0) (.slice a2 frs.length n2)) w (w1.setCell ⟨pb, x.2, none⟩ (.int .i64 (ord.length : Nat))).drew) := by
    have h9 := HB1.out
    rw [HS.out] at h9
    exact (Kg.Touch.of_below h9 _).trans (T2.mono (fun k hk => .inl (by simp at hk; simp [triF, hk])))
  clear T2
  go_upto_region 3 with fail
  clear c0 c1 k0 k1 cp zp HR1 HX1 HB1
  generalize (w1.setCell ⟨pb, x.2, none⟩ (.int .i64 (ord.length : Nat))).drew = w2 at *
  have c0 := Kg.heap_cell HR2.out.h 0
  have k1 := Kg.heap_cell HX2.out 1
  simp only [List.getElem?_toArray, List.getElem?_cons_zero, List.getElem?_cons_succ] at c0 k1
  have HN2 : Hid (Kg.Newer w.heap.size (triF A pb (.slice a0 ord.length n0) (.slice a2 frs.length n2)) (triF A pb (.slice a0 ord.length n0) (.slice a2 frs.length n2))) := Kg.Newer.refl _ _
  go_cut [] from 19 to 29 (fun wq => ∃ vo : Value, Hid (Tri wq B A pb m vo (.slice a2 frs.length n2) ((ord ++ [x.2]).map Int.ofNat) (frs.map Int.ofNat) (plv (ord ++ [x.2]))) ∧ Hid (wq.heap[S]? = some (.cells (stc x) 135 (0, 0))) ∧ Hid (Kg.Touch (triF A pb (.slice a0 ord.length n0) (.slice a2 frs.length n2)) w wq) ∧ Hid (Kg.Newer w.heap.size (triF A pb (.slice a0 ord.length n0) (.slice a2 frs.length n2)) (triF A pb vo (.slice a2 frs.length n2))))
  case first =>
    have hcA : (w2.alloc (.cells #[.int .i64 (x.2 : Nat)] 3)).cell? ⟨A, 0, none⟩ = some (.slice a0 ord.length n0) := (Below.cell (p := ⟨A, 0, none⟩) (Below.alloc (Below.refl w2.heap.size w2) (Nat.le_refl _) _) (Kg.heap_lt HR2.out.h)).trans c0
    have HRow : Hid ((w2.drew.alloc (.cells #[.int .i64 (x.2 : Nat)] 3)).ownsRow B 3 1 (.slice a0 ord.length n0) ord.length (Kg.ints (ord.map Int.ofNat))) := by
      have h9 := Kg.row_keep2 (G := []) HR2.out.s ((Kg.Touch.drew _ w2).trans (Kg.Touch.alloc _ _ (.cells #[.int .i64 (x.2 : Nat)] 3))) (fun _ _ => by simp)
      rw [List.length_map] at h9
      exact h9
    have HRd : Hid (Tri w2.drew B A pb m (.slice a0 ord.length n0) (.slice a2 frs.length n2) (ord.map Int.ofNat) (frs.map Int.ofNat) (plv (ord ++ [x.2]))) := HR2.out.keep (Kg.Touch.drew [] w2) (fun _ _ => by simp)
    have hws := HR2.out.sz
    go_region_law (refine step_append_own_at rfl (.tmp 23) (.tmp 26) 24 rfl B 3 i0 (.int .i64 0) 1 8 Tryz.underlying24 HI.out.1 HI.out.2.1 HI.out.2.2.1 HI.out.2.2.2 rfl (by decide) (.slice a0 ord.length n0) ord.length (Kg.ints (ord.map Int.ofNat)) rfl HRow.out ⟨w2.drew.heap.size, 0, none⟩ 1 1 [.int .i64 (x.2 : Nat)] rfl rfl (cell_one17 _ _ _) (by simp [Value.oneCell']) (by simp only [maxLen]; omega) (by omega) (by simp; omega) ?_; intro v8 w8 h8 g8 e8; obtain ⟨a8, c8, rfl, d8, z8, HN⟩ := HRd.out.push0 (by rw [List.length_map]; exact h8) g8 e8)
    all_goals
      have HZ : Hid (∃ vo : Value, Hid (Tri (w8.setCell ⟨A, 0, none⟩ (.slice a8 ((ord.map Int.ofNat).length + 1) c8)) B A pb m vo (.slice a2 frs.length n2) ((ord ++ [x.2]).map Int.ofNat) (frs.map Int.ofNat) (plv (ord ++ [x.2]))) ∧ Hid ((w8.setCell ⟨A, 0, none⟩ (.slice a8 ((ord.map Int.ofNat).length + 1) c8)).heap[S]? = some (.cells (stc x) 135 (0, 0))) ∧ Hid (Kg.Touch (triF A pb (.slice a0 ord.length n0) (.slice a2 frs.length n2)) w (w8.setCell ⟨A, 0, none⟩ (.slice a8 ((ord.map Int.ofNat).length + 1) c8))) ∧ Hid (Kg.Newer w.heap.size (triF A pb (.slice a0 ord.length n0) (.slice a2 frs.length n2)) (triF A pb vo (.slice a2 frs.length n2)))) := by
        obtain ⟨f1, f2, f3⟩ := HN.out
        refine ⟨_, by rw [List.map_append]; exact f1, (f2.block S (Kg.heap_lt HX2.out) (fun hm => by have := HM.out S hm; have := HS.out; omega)).trans HX2.out, (HT2.out.trans (Kg.Touch.drew _ _)).trans f2, fun k hk => ?_⟩
        rcases f3 k hk with h1 | h1
        · exact .inl h1
        · exact .inr (Nat.le_trans HT2.out.size h1)
      rw [List.length_map] at HZ
      clear h8 g8 e8 d8 z8 HN HRd HRow hcA
      generalize w8.setCell ⟨A, 0, none⟩ (.slice a8 (ord.length + 1) c8) = w9 at *
      go_wp2
      go_meet
      case rel => exact HZ.out
  case rest =>
    obtain ⟨vo, R3, X3, T3, N3⟩ := hcut
    clear c0 k1 HR2 HX2 HT2 HN2
    have c2 := Kg.heap_cell R3.out.h 2
    have k0 := Kg.heap_cell X3.out 0
    simp only [List.getElem?_toArray, List.getElem?_cons_zero, List.getElem?_cons_succ] at c2 k0
    have hcA : (wc.alloc (.cells #[.int .i64 (x.1 : Nat)] 3)).cell? ⟨A, 2, none⟩ = some (.slice a2 frs.length n2) := (Below.cell (p := ⟨A, 2, none⟩) (Below.alloc (Below.refl wc.heap.size wc) (Nat.le_refl _) _) (Kg.heap_lt R3.out.h)).trans c2
    have HRow : Hid ((wc.drew.alloc (.cells #[.int .i64 (x.1 : Nat)] 3)).ownsRow B 3 1 (.slice a2 frs.length n2) frs.length (Kg.ints (frs.map Int.ofNat))) := by
      have h9 := Kg.row_keep2 (G := []) R3.out.b ((Kg.Touch.drew _ wc).trans (Kg.Touch.alloc _ _ (.cells #[.int .i64 (x.1 : Nat)] 3))) (fun _ _ => by simp)
      rw [List.length_map] at h9
      exact h9
    have HRd : Hid (Tri wc.drew B A pb m vo (.slice a2 frs.length n2) ((ord ++ [x.2]).map Int.ofNat) (frs.map Int.ofNat) (plv (ord ++ [x.2]))) := R3.out.keep (Kg.Touch.drew [] wc) (fun _ _ => by simp)
    have hws := R3.out.sz
    have hfm : frs.length ≤ 2000000 := by omega
    go_upto_region 4 with fail
    go_region_law (refine step_append_own_at rfl (.tmp 34) (.tmp 37) 24 rfl B 3 i0 (.int .i64 0) 1 8 Tryz.underlying24 HI.out.1 HI.out.2.1 HI.out.2.2.1 HI.out.2.2.2 rfl (by decide) (.slice a2 frs.length n2) frs.length (Kg.ints (frs.map Int.ofNat)) rfl HRow.out ⟨wc.drew.heap.size, 0, none⟩ 1 1 [.int .i64 (x.1 : Nat)] rfl rfl (cell_one17 _ _ _) (by simp [Value.oneCell']) (by simp only [maxLen]; omega) (by omega) (by simp; omega) ?_; intro v8 w8 h8 g8 e8; obtain ⟨a8, c8, rfl, d8, z8, HN⟩ := HRd.out.push2 (by rw [List.length_map]; exact h8) g8 e8)
    all_goals
      have HZ : Hid (∃ F', Dv (ord ++ [x.2]) (frs ++ [x.1]) B A pb m (w8.setCell ⟨A, 2, none⟩ (.slice a8 ((frs.map Int.ofNat).length + 1) c8)) F' ∧ Kg.Touch (triF A pb (.slice a0 ord.length n0) (.slice a2 frs.length n2)) w (w8.setCell ⟨A, 2, none⟩ (.slice a8 ((frs.map Int.ofNat).length + 1) c8)) ∧ Kg.Newer w.heap.size (triF A pb (.slice a0 ord.length n0) (.slice a2 frs.length n2)) F') := by
        obtain ⟨f1, f2, f3⟩ := HN.out
        have hcd : Kg.Touch (triF A pb vo (.slice a2 frs.length n2)) wc (w8.setCell ⟨A, 2, none⟩ (.slice a8 ((frs.map Int.ofNat).length + 1) c8)) := (Kg.Touch.drew _ _).trans f2
        refine ⟨_, ⟨vo, _, by rw [List.map_append (l₁ := frs)]; exact f1, rfl⟩, T3.out.then hcd (fun k hk => N3.out k hk), fun k hk => ?_⟩
        rcases f3 k hk with h1 | h1
        · exact N3.out k h1
        · exact .inr (Nat.le_trans T3.out.size h1)
      rw [List.length_map] at HZ
      clear h8 g8 e8 d8 z8 HN HRd HRow hcA c2 k0
      generalize w8.setCell ⟨A, 2, none⟩ (.slice a8 (frs.length + 1) c8) = w9 at *
      go_wp2
      go_ret
      exact ⟨rfl, HZ.out⟩
end Go.Proofs.YtkekaifiahjljaaGreatDoor
namespace Go.Proofs.YtkekaifiahjljaaGreatDoor.Kg
open Go.RowKit
section
variable {P : Program} {ops : Array Oper} {Q : Exit → Act → World → Prop} {md : Region.Mode} {S : World → Prop} {L : Nat}
def waitB (md : Region.Mode) (ops : Array Oper) (L : Nat) : Bool :=
  (List.range ops.size).all fun i => i == L || (match ops[L]? with
    | some o => o.after.any (fun e => Region.binds md e && e.on == i)
    | none => false)
theorem wait_spec (h : waitB md ops L = true) {listed : Array Bool} (hr : L ∈ Region.ready md ops listed) {i : Nat} (hi : i < ops.size) (hne : i ≠ L) : listed.getD i false = true := by
  have h1 := List.all_eq_true.1 h i (List.mem_range.2 hi)
  obtain ⟨h2, h3, o, ho, h4⟩ := mem_rdy2.1 hr
  simp only [ho, Bool.or_eq_true, beq_iff_eq, hne, false_or] at h1
  obtain ⟨e, he, h5⟩ := Array.any_eq_true'.1 h1
  simp only [Bool.and_eq_true, beq_iff_eq] at h5
  rw [← h5.2]
  exact h4 e he h5.1
def wpAnyE (P : Program) (md : Region.Mode) (ops : Array Oper) (Q : Exit → Act → World → Prop) (S : World → Prop) (L : Nat) : Nat → Array Bool → Act → World → Prop
  | 0, listed, a, w => Region.ready md ops listed = [] ∧ Q .normal a w
  | fuel + 1, listed, a, w =>
    (Region.ready md ops listed = [] → Q .normal a w) ∧
    ∀ i ∈ Region.ready md ops listed, wpOp P ops Q i (fun a' w' => (i ≠ L → S w') ∧ wpAnyE P md ops Q S L fuel (listed.setIfInBounds i true) a' w') a w
theorem wpAny_of_E : ∀ (fuel : Nat) (listed : Array Bool) (a : Act) (w : World), wpAnyE P md ops Q S L fuel listed a w → wpAny P md ops Q fuel listed a w
  | 0, _, _, _, h => h
  | fuel + 1, _, _, _, h => ⟨h.1, fun i hi => wpOp_mono (fun a' w' h' => wpAny_of_E fuel _ a' w' h'.2) (h.2 i hi)⟩
theorem wpAnyE_first (hL : waitB md ops L = true) {i : Nat} (hiL : i ≠ L) {oi : Oper} {v : Value} (hi : ops[i]? = some oi) (hsel : ∀ (j : Nat) (o : Oper) cs b, ops[j]? = some o → o.op ≠ .select cs b)
    (hQ : ∀ c a w, Q (.panic c) (a.put oi.dst v) w → Q (.panic c) a w) :
    ∀ (fuel : Nat) (listed : Array Bool) (a : Act) (w : World),
      (∀ j oj, ops[j]? = some oj → j ≠ i → listed.getD j true = false → (∀ e ∈ oj.after, Region.binds md e = true → e.on ≠ i) → oi.apart ops oj = true) →
      i ∈ Region.ready md ops listed → YieldsIf P ops S oi v a → S w →
      wpAnyE P md ops Q S L fuel (listed.setIfInBounds i true) (a.put oi.dst v) w → wpAnyE P md ops Q S L (fuel + 1) listed a w := by
  have hsz : i < ops.size := by
    rcases Nat.lt_or_ge i ops.size with h | h
    · exact h
    · rw [Array.getElem?_eq_none h] at hi; cases hi
  intro fuel
  induction fuel with
  | zero =>
    intro listed a w _ hr hy hS H
    refine ⟨fun h => (by rw [h] at hr; cases hr), fun j hj => ?_⟩
    by_cases hji : j = i
    · subst hji; exact hy.wpOp hi hS ⟨fun _ => hS, H⟩
    · have := ready_mono hj hji
      rw [H.1] at this
      cases this
  | succ fuel ih =>
    intro listed a w hfree hr hy hS H
    refine ⟨fun h => (by rw [h] at hr; cases hr), fun j hj => ?_⟩
    by_cases hji : j = i
    · subst hji; exact hy.wpOp hi hS ⟨fun _ => hS, H⟩
    · have hjL : j ≠ L := fun e => by
        subst e
        have h1 := wait_spec hL hj hsz hiL
        have h2 := (mem_ready.1 hr).1
        rw [getD_both h2] at h1
        cases h1
      have h1 := H.2 j (ready_mono hj hji)
      obtain ⟨hjun, oj, hoj, hall⟩ := mem_ready.1 hj
      have hnot : ∀ e ∈ oj.after, Region.binds md e = true → e.on ≠ i := fun e he hb heq => by
        have h1 := hall e he hb
        rw [heq, getD_both (mem_ready.1 hr).1] at h1
        cases h1
      have h2 := wpOp_putIf hoj (hfree j oj hoj hji hjun hnot) (fun cs b => hsel i oi cs b hi) (fun cs b => hsel j oj cs b hoj) hQ hy h1
      have hfree' : ∀ k ok, ops[k]? = some ok → k ≠ i → (listed.setIfInBounds j true).getD k true = false →
          (∀ e ∈ ok.after, Region.binds md e = true → e.on ≠ i) → oi.apart ops ok = true := fun k ok hk hki hun hno => by
        refine hfree k ok hk hki ?_ hno
        by_cases hjk : j = k
        · subst hjk; exact hjun
        · rw [getD_set_ne true hjk] at hun; exact hun
      refine wpOp_mono (fun a' w' h3 => ⟨h3.2.1, ih (listed.setIfInBounds j true) a' w' hfree' (ready_mono hr (Ne.symm hji)) h3.1 (h3.2.1 hjL) ?_⟩) h2
      rw [Array.setIfInBounds_comm _ _ hji]
      exact h3.2.2
theorem wpAnyE_take {i : Nat} {oi : Oper} {v : Value} {fuel : Nat} {listed : Array Bool} {a : Act} {w : World} (hL : waitB md ops L = true) (hiL : i ≠ L) (hi : ops[i]? = some oi)
    (hs : Region.noSelect ops = true) (hf : Region.free md ops listed i = true) (hr : (Region.ready md ops listed).contains i = true)
    (hQ : ∀ c a w, Q (.panic c) (a.put oi.dst v) w → Q (.panic c) a w) (hy : YieldsIf P ops S oi v a) (hS : S w)
    (h : wpAnyE P md ops Q S L fuel (listed.setIfInBounds i true) (a.put oi.dst v) w) : wpAnyE P md ops Q S L (fuel + 1) listed a w :=
  wpAnyE_first hL hiL hi (Region.noSelect_spec hs) hQ fuel listed a w (Region.free_spec hi hf) (by simpa using hr) hy hS h
theorem wpAnyE_one {i : Nat} {o : Oper} {fuel : Nat} {listed : Array Bool} {a : Act} {w : World} (hr : Region.ready md ops listed = [i]) (ho : ops[i]? = some o)
    (h : ∀ K' : Act → World → Prop, Shut (∀ a w, S w → (S w → wpAnyE P md ops Q S L fuel (listed.setIfInBounds i true) a w) → K' a w) → if Region.wanted o (yielded ops a.tmps) = true then Oper.wp P o a w K' Q else K' (a.put o.dst undef) w) : wpAnyE P md ops Q S L (fuel + 1) listed a w := by
  refine ⟨fun h0 => (by rw [hr] at h0; cases h0), fun j hj => ?_⟩
  rw [hr] at hj
  obtain rfl : j = i := by simpa using hj
  exact wpOp_step ho (fun K' hK => h K' (fun a w hS hW => hK a w ⟨fun _ => hS, hW hS⟩))
theorem wpAnyE_last {o : Oper} {fuel : Nat} {listed : Array Bool} {a : Act} {w : World} (hr : Region.ready md ops listed = [L]) (hr2 : Region.ready md ops (listed.setIfInBounds L true) = []) (ho : ops[L]? = some o)
    (h : ∀ K' : Act → World → Prop, Shut (∀ a w, Q .normal a w → K' a w) → if Region.wanted o (yielded ops a.tmps) = true then Oper.wp P o a w K' Q else K' (a.put o.dst undef) w) : wpAnyE P md ops Q S L (fuel + 1) listed a w := by
  refine ⟨fun h0 => (by rw [hr] at h0; cases h0), fun j hj => ?_⟩
  rw [hr] at hj
  obtain rfl : j = L := by simpa using hj
  refine wpOp_step ho (fun K' hK => h K' (fun a w hq => hK a w ⟨fun h => absurd rfl h, ?_⟩))
  cases fuel with
  | zero => exact ⟨hr2, hq⟩
  | succ f => exact ⟨fun _ => hq, fun i hi => by rw [hr2] at hi; cases hi⟩
theorem wp_region_E {id : Nat} {a : Act} {w : World} (L : Nat) (hm : P.follows .mixedOrders = true) (hS : S w.drew)
    (h : S w.drew → wpAnyE P .any ops Q S L ops.size (Array.replicate ops.size false) a w.drew) : (Code.region id ops true).wp P Q a w :=
  wp_region_any hm (wpAny_of_E _ _ _ _ (h hS))
end
end Go.Proofs.YtkekaifiahjljaaGreatDoor.Kg
