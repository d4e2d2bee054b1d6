/-
  BagPlays: all containers at once.
-/
import Derived.Test.YtcjblafohfiiaabGreatQB
import Derived.Test.YtcjblafohfiiaabGreatXB
import Derived.Test.YtcjblafohfiiaabGreatWB
import Derived.Test.YtcjblafohfiiaabGreatYB
set_option linter.unusedVariables false
namespace Go.Proofs.YtcjblafohfiiaabGreat.Pa
open Go.RowKit Go.Shelf

theorem PS.keep {W W' : World} {base bs br : Nat} {m : Int} {xs : List Int} {F G : List Nat} (h : PS W base bs br m xs F) (ht : Touch G W W') (ha : Apart F G) : PS W' base bs br m xs F := by
  obtain ⟨Fs, Fr, hs, hn, hap, rfl⟩ := h
  exact ⟨Fs, Fr, hs.keep ht (fun k hk => ha k (by simp [hk])), hn.keep ht (fun k hk => ha k (by simp [hk])), hap, rfl⟩

theorem PS.mem {W : World} {base bs br : Nat} {m : Int} {xs : List Int} {F : List Nat} (h : PS W base bs br m xs F) : ∀ k, k ∈ F → base ≤ k ∧ k < W.heap.size := by
  obtain ⟨Fs, Fr, hs, hn, hap, rfl⟩ := h
  intro k hk
  rcases List.mem_append.1 hk with h | h
  · exact hs.mem k h
  · exact hn.mem k h

theorem PQ.keep {W W' : World} {base bs br N : Nat} {m : Int} {xs : List Int} {F G : List Nat} (h : PQ W base bs br N m xs F) (ht : Touch G W W') (ha : Apart F G) : PQ W' base bs br N m xs F := by
  obtain ⟨Fs, Fr, hs, hn, hap, rfl⟩ := h
  exact ⟨Fs, Fr, hs.keep ht (fun k hk => ha k (by simp [hk])), hn.keep ht (fun k hk => ha k (by simp [hk])), hap, rfl⟩

theorem PQ.mem {W : World} {base bs br N : Nat} {m : Int} {xs : List Int} {F : List Nat} (h : PQ W base bs br N m xs F) : ∀ k, k ∈ F → base ≤ k ∧ k < W.heap.size := by
  obtain ⟨Fs, Fr, hs, hn, hap, rfl⟩ := h
  intro k hk
  rcases List.mem_append.1 hk with h | h
  · exact hs.mem k h
  · exact hn.mem k h

theorem apart_two {a b : Nat} (hne : a ≠ b) : Apart [a] [b] := by
  intro k hk hk2
  simp at hk hk2
  omega

theorem PS.start {W : World} {base bs br : Nat} {m : Int} (hs : W.heap[bs]? = some (oStk m)) (hr : W.heap[br]? = some (oNum m)) (h1 : base ≤ bs) (h2 : base ≤ br) (hne : bs ≠ br) : PS W base bs br m [] [bs, br] :=
  ⟨[bs], [br], ⟨.slice none 0 0, hs, h1, World.ownsRow_nil _ _ _ _, rfl⟩, ⟨.slice none 0 0, hr, h2, World.ownsRow_nil _ _ _ _, rfl⟩, apart_two hne, rfl⟩

theorem PQ.start {W : World} {base bs br : Nat} {m : Int} (hs : W.heap[bs]? = some (oQue m)) (hr : W.heap[br]? = some (oNum m)) (h1 : base ≤ bs) (h2 : base ≤ br) (hne : bs ≠ br) : PQ W base bs br 0 m [] [bs, br] :=
  ⟨[bs], [br], ⟨.slice none 0 0, [], 0, hs, h1, World.ownsRow_nil _ _ _ _, Nat.le_refl _, rfl, Nat.le_refl _, rfl⟩, ⟨.slice none 0 0, hr, h2, World.ownsRow_nil _ _ _ _, rfl⟩, apart_two hne, rfl⟩

/-- The j-th of the ten, behind k steps. -/
def Pj (base : Nat) (B : Nat → Nat) (m : Nat → Int) (j : Nat) (W : World) (k : Nat) (F : List Nat) : Prop :=
  (j < 2 → ∃ xs, PS W base (B j) (B (10 + j)) (m j) xs F ∧ xs.length ≤ k) ∧
  (2 ≤ j → j < 4 → ∃ N xs, PQ W base (B j) (B (10 + j)) N (m j) xs F ∧ xs.length ≤ k ∧ N ≤ k) ∧
  (4 ≤ j → j < 6 → ∃ N xs, Tx.PQ W base (B j) (B (10 + j)) N (m j) xs F ∧ xs.length ≤ k ∧ N ≤ k) ∧
  (6 ≤ j → j < 8 → Wd.PWl W base (B j) (B (10 + j)) k F) ∧
  (8 ≤ j → Nd.PWl W base (B j) (B (10 + j)) k F)

variable {base : Nat} {B : Nat → Nat} {m : Nat → Int} {j : Nat} {W W' : World} {k : Nat} {F G : List Nat}

theorem Pj.keep (h : Pj base B m j W k F) (ht : Touch G W W') (ha : Apart F G) : Pj base B m j W' k F := by
  obtain ⟨h1, h2, h3, h4, h5⟩ := h
  refine ⟨fun a => ?_, fun a b => ?_, fun a b => ?_, fun a b => (h4 a b).keep ht ha, fun a => (h5 a).keep ht ha⟩
  · obtain ⟨xs, p, q⟩ := h1 a
    exact ⟨xs, PS.keep p ht ha, q⟩
  · obtain ⟨N, xs, p, q⟩ := h2 a b
    exact ⟨N, xs, PQ.keep p ht ha, q⟩
  · obtain ⟨N, xs, p, q⟩ := h3 a b
    exact ⟨N, xs, Tx.PQ.keep p ht ha, q⟩

theorem Pj.mem (h : Pj base B m j W k F) : ∀ q, q ∈ F → base ≤ q ∧ q < W.heap.size := by
  obtain ⟨h1, h2, h3, h4, h5⟩ := h
  rcases Nat.lt_or_ge j 2 with a | a
  · obtain ⟨xs, p, _⟩ := h1 a
    exact PS.mem p
  · rcases Nat.lt_or_ge j 4 with b | b
    · obtain ⟨N, xs, p, _⟩ := h2 a b
      exact PQ.mem p
    · rcases Nat.lt_or_ge j 6 with c | c
      · obtain ⟨N, xs, p, _⟩ := h3 b c
        exact Tx.PQ.mem p
      · rcases Nat.lt_or_ge j 8 with d | d
        · exact (h4 c d).mem
        · exact (h5 d).mem

theorem Pj.more (h : Pj base B m j W k F) : Pj base B m j W (k + 1) F := by
  obtain ⟨h1, h2, h3, h4, h5⟩ := h
  refine ⟨fun a => ?_, fun a b => ?_, fun a b => ?_, fun a b => (h4 a b).more, fun a => (h5 a).more⟩
  · obtain ⟨xs, p, q⟩ := h1 a
    exact ⟨xs, p, by omega⟩
  · obtain ⟨N, xs, p, q, r⟩ := h2 a b
    exact ⟨N, xs, p, by omega, by omega⟩
  · obtain ⟨N, xs, p, q, r⟩ := h3 a b
    exact ⟨N, xs, p, by omega, by omega⟩

/-- All ten, and the desk. -/
structure InA (w : World) (B : Nat → Nat) (m : Nat → Int) (k : Nat) (W : World) (F : Nat → List Nat) : Prop where
  p : ∀ j, j < 10 → Pj w.heap.size B m j W k (F j)
  ap : ∀ i j, i < 10 → j < 10 → i ≠ j → Apart (F i) (F j)
  c : ∀ j, j < 20 → W.cell? ⟨w.heap.size, j, none⟩ = some (.pointer (some ⟨B j, 0, none⟩))
  n : ∀ j, j < 10 → w.heap.size ∉ F j
  bel : Below w.heap.size w W

def Inv (w : World) (k : Nat) (W : World) : Prop := ∃ B m F, InA w B m k W F

theorem InA.alloc {w : World} {F : Nat → List Nat} (h : InA w B m k W F) (o : Obj) : InA w B m k (W.alloc o) F := by
  have ta : Touch [] W (W.alloc o) := Touch.alloc _ _ _
  exact ⟨fun j hj => (h.p j hj).keep ta (by intro k _ h; simp at h), h.ap, fun j hj => Tx.touch_cell ta (by simp) (h.c j hj), h.n, Below.alloc h.bel h.bel.size o⟩

theorem InA.more {w : World} {F : Nat → List Nat} (h : InA w B m k W F) : InA w B m (k + 1) W F := ⟨fun j hj => (h.p j hj).more, h.ap, h.c, h.n, h.bel⟩

theorem InA.step {w : World} {F : Nat → List Nat} {F' : List Nat} (h : InA w B m k W F) (j : Nat) (hj : j < 10) (hp : Pj w.heap.size B m j W' (k + 1) F') (ht : Touch (F j) W W') (hn : Newer W.heap.size (F j) F') : Inv w (k + 1) W' := by
  have hd : w.heap.size < W.heap.size := World.block_lt_of_cell? _ _ (h.c 0 (by omega))
  refine ⟨B, m, fun i => if i = j then F' else F i, fun i hi => ?_, fun a b ha hb hab => ?_, fun i hi => Tx.touch_cell ht (h.n j hj) (h.c i hi), fun i hi => ?_, h.bel.trans (ht.below h.bel.size (fun q hq => ((h.p j hj).mem q hq).1))⟩
  · by_cases e : i = j
    · subst e
      rw [if_pos rfl]; exact hp
    · rw [if_neg e]
      exact ((h.p i hi).keep ht (h.ap i j hi hj e)).more
  · by_cases e : a = j
    · subst e
      rw [if_pos rfl, if_neg (Ne.symm hab)]
      exact (h.ap a b ha hb hab).newer hn (fun q hq => ((h.p b hb).mem q hq).2)
    · rw [if_neg e]
      by_cases e2 : b = j
      · subst e2
        rw [if_pos rfl]
        exact ((h.ap b a hb ha (Ne.symm hab)).newer hn (fun q hq => ((h.p a ha).mem q hq).2)).symm
      · rw [if_neg e2]
        exact h.ap a b ha hb hab
  · by_cases e : i = j
    · subst e
      rw [if_pos rfl]
      intro hm
      rcases hn _ hm with h1 | h1
      · exact h.n i hi h1
      · omega
    · rw [if_neg e]; exact h.n i hi

theorem placed_all {w : World} {D : List (Option Addr)} {L : List Obj} {j b : Nat} {m : Int} (h : Placed w D L j b m) : ∀ t, t < 10 → D[2 * t + j]? = some (atP w (b + t)) := by
  intro t ht
  obtain rfl | rfl | rfl | rfl | rfl | rfl | rfl | rfl | rfl | rfl : t = 0 ∨ t = 1 ∨ t = 2 ∨ t = 3 ∨ t = 4 ∨ t = 5 ∨ t = 6 ∨ t = 7 ∨ t = 8 ∨ t = 9 := by omega
  · simpa using h.d0
  · exact h.d1
  · exact h.d2
  · exact h.d3
  · exact h.d4
  · exact h.d5
  · exact h.d6
  · exact h.d7
  · exact h.d8
  · exact h.d9

theorem inv_start (w W : World) (one two : Int) (D : List (Option Addr)) (M : List Int) (L : List Obj) (hb : Beg w one two 2 D M L) (h : Bg w W D M L) : Inv w 0 W := by
  obtain ⟨dl, ml, -, b, hp, hd⟩ := hb
  have hd := hd rfl
  have hq : ∀ i, i < 2 → ∀ t, t < 10 → W.heap[w.heap.size + 2 + (b i + t)]? = (ten (max 0 (if i = 0 then one else two)))[t]? := fun i hi t ht => by
    obtain ⟨p, q⟩ := hp i hi
    have e := p.o t ht
    have hl : t < (ten (max 0 (if i = 0 then one else two))).length := by simpa using ht
    rw [List.getElem?_eq_getElem hl] at e ⊢
    exact h.obj (b i + t) _ e
  have hm2 : ∀ j, j % 2 < 2 := fun j => Nat.mod_lt _ (by omega)
  have hb01 : ∀ i t i' t', i < 2 → t < 10 → i' < 2 → t' < 10 → b i + t = b i' + t' → i = i' ∧ t = t' := fun i t i' t' hi ht hi' ht' e => by
    obtain rfl | rfl : i = 0 ∨ i = 1 := by omega
    · obtain rfl | rfl : i' = 0 ∨ i' = 1 := by omega
      · exact ⟨rfl, by omega⟩
      · omega
    · obtain rfl | rfl : i' = 0 ∨ i' = 1 := by omega
      · omega
      · exact ⟨rfl, by omega⟩
  refine ⟨fun j => w.heap.size + 2 + (b (j % 2) + j / 2), fun j => max 0 (if j % 2 = 0 then one else two), fun j => [w.heap.size + 2 + (b (j % 2) + j / 2), w.heap.size + 2 + (b ((10 + j) % 2) + (10 + j) / 2)], fun j hj => ?_, fun i j hi hj hij => ?_, fun j hj => ?_, fun j hj => ?_, ?_⟩
  · have e1 : (10 + j) % 2 = j % 2 := by omega
    have e2 : (10 + j) / 2 = 5 + j / 2 := by omega
    have s0 := hq (j % 2) (hm2 j) (j / 2) (by omega)
    have s1 := hq (j % 2) (hm2 j) (5 + j / 2) (by omega)
    show Pj _ _ _ _ _ _ _
    unfold Pj
    simp only [e1, e2]
    refine ⟨fun a => ?_, fun a a' => ?_, fun a a' => ?_, fun a a' => ?_, fun a => ?_⟩
    · have e3 : j / 2 = 0 := by omega
      rw [e3] at s0 s1 ⊢
      exact ⟨[], PS.start s0 s1 (by omega) (by omega) (by omega), Nat.le_refl _⟩
    · have e3 : j / 2 = 1 := by omega
      rw [e3] at s0 s1 ⊢
      exact ⟨0, [], PQ.start s0 s1 (by omega) (by omega) (by omega), Nat.le_refl _, Nat.le_refl _⟩
    · have e3 : j / 2 = 2 := by omega
      rw [e3] at s0 s1 ⊢
      exact ⟨0, [], Tx.PQ.start s0 s1 (by omega) (by omega) (by omega), Nat.le_refl _, Nat.le_refl _⟩
    · have e3 : j / 2 = 3 := by omega
      rw [e3] at s0 s1 ⊢
      exact ⟨[], [], [], [], Wd.PW.start s0 s1 (by omega) (by omega) (by omega), Nat.le_refl _⟩
    · have e3 : j / 2 = 4 := by omega
      rw [e3] at s0 s1 ⊢
      exact ⟨[], [], [], [], Nd.PW.start s0 s1 (by omega) (by omega) (by omega), Nat.le_refl _⟩
  · intro q hq1 hq2
    simp only [List.mem_cons, List.not_mem_nil, or_false] at hq1 hq2
    have f1 : ∀ x y, x < 20 → y < 20 → w.heap.size + 2 + (b (x % 2) + x / 2) = w.heap.size + 2 + (b (y % 2) + y / 2) → x = y := fun x y hx hy e => by
      have := hb01 (x % 2) (x / 2) (y % 2) (y / 2) (hm2 x) (by omega) (hm2 y) (by omega) (by omega)
      omega
    rcases hq1 with h1 | h1
    · rcases hq2 with h2 | h2
      · have := f1 i j (by omega) (by omega) (h1.symm.trans h2); omega
      · have := f1 i (10 + j) (by omega) (by omega) (h1.symm.trans h2); omega
    · rcases hq2 with h2 | h2
      · have := f1 (10 + i) j (by omega) (by omega) (h1.symm.trans h2); omega
      · have := f1 (10 + i) (10 + j) (by omega) (by omega) (h1.symm.trans h2); omega
  · have e := placed_all (hp (j % 2) (hm2 j)).1 (j / 2) (by omega)
    rw [show 2 * (j / 2) + j % 2 = j by omega] at e
    exact h.cellD j _ e
  · intro hm
    simp only [List.mem_cons, List.not_mem_nil, or_false] at hm
    omega
  · refine ⟨h.os, h.tape, h.output, by rw [h.size]; omega, fun k hk => ?_⟩
    rw [h.heap, Array.getElem?_append_left hk]

theorem sec_at (sec : Bool) (t : Nat) : ∃ i : Nat, i < 2 ∧ (i : Int) = (if sec = true then 1 else 0) ∧ 2 * t + i = 2 * t + (if sec = true then 1 else 0) := by
  cases sec
  · exact ⟨0, by omega, rfl, rfl⟩
  · exact ⟨1, by omega, rfl, rfl⟩

theorem inv_step (w : World) (k : Nat) (o : OpD) (W : World) (hk : k < 400) (hi : Inv w k W) (h1 : 1 ≤ o.k) (h4 : o.k ≤ 26) :
    Calls Tryz.prog 9 #[.pointer (some ⟨w.heap.size, 0, none⟩), .agg (opv o.k o.sec o.n o.wd o.s o.stop)] W fun e W' => e = .returned (.bool true) ∧ Inv w (k + 1) W' := by
  obtain ⟨B, m, F, hi⟩ := hi
  have ha := hi.alloc (.cells (opv o.k o.sec o.n o.wd o.s o.stop) 31)
  obtain ⟨i, hi2, hie, -⟩ := sec_at o.sec 0
  by_cases g1 : o.k ≤ 4
  · refine plays_stack (Inv w (k + 1)) w.heap.size o.k o.sec o.n o.wd o.s o.stop W h1 g1 ?_
    rw [← hie]
    obtain ⟨xs, p, q⟩ := (ha.p i (by omega)).1 hi2
    refine (so_any w.heap.size i (B i) (B (10 + i)) w.heap.size (m i) xs (F i) o.k o.sec o.n o.wd o.s o.stop _ hi2 p ha.bel.size (by omega) (ha.c i (by omega)) (ha.c (10 + i) (by omega))).mono ?_
    rintro e W' ⟨rfl, xs', F', hx, hp, ht, hn⟩
    refine ⟨rfl, ha.step i (by omega) ⟨fun _ => ⟨xs', hp, by omega⟩, fun a => by omega, fun a => by omega, fun a => by omega, fun a => by omega⟩ ht hn⟩
  by_cases g2 : o.k ≤ 9
  · refine plays_queue (Inv w (k + 1)) w.heap.size o.k o.sec o.n o.wd o.s o.stop W (by omega) g2 ?_
    rw [← hie]
    obtain ⟨N, xs, p, q, r⟩ := (ha.p (2 + i) (by omega)).2.1 (by omega) (by omega)
    have hcr := ha.c (12 + i) (by omega)
    rw [show 12 + i = 10 + (2 + i) by omega] at hcr
    refine (qo_any w.heap.size i (B (2 + i)) (B (10 + (2 + i))) w.heap.size N (m (2 + i)) xs (F (2 + i)) o.k o.sec o.n o.wd o.s o.stop _ hi2 p ha.bel.size (by omega) (by omega) (ha.c (2 + i) (by omega)) (by rw [show 12 + i = 10 + (2 + i) by omega]; exact hcr)).mono ?_
    rintro e W' ⟨rfl, N', xs', F', hN, hx, hp, ht, hn⟩
    refine ⟨rfl, ha.step (2 + i) (by omega) ⟨fun a => by omega, fun _ _ => ⟨N', xs', hp, by omega, by omega⟩, fun a => by omega, fun a => by omega, fun a => by omega⟩ ht hn⟩
  by_cases g3 : o.k ≤ 14
  · refine Tx.plays_text (Inv w (k + 1)) w.heap.size o.k o.sec o.n o.wd o.s o.stop W (by omega) g3 ?_
    rw [← hie]
    obtain ⟨N, xs, p, q, r⟩ := (ha.p (4 + i) (by omega)).2.2.1 (by omega) (by omega)
    have hcr := ha.c (10 + (4 + i)) (by omega)
    refine (Tx.qo_any w.heap.size i (B (4 + i)) (B (10 + (4 + i))) w.heap.size N (m (4 + i)) xs (F (4 + i)) o.k o.sec o.n o.wd o.s o.stop _ hi2 p ha.bel.size (by omega) (by omega) (ha.c (4 + i) (by omega)) (by rw [show 14 + i = 10 + (4 + i) by omega]; exact hcr)).mono ?_
    rintro e W' ⟨rfl, N', xs', F', hN, hx, hp, ht, hn⟩
    refine ⟨rfl, ha.step (4 + i) (by omega) ⟨fun a => by omega, fun a => by omega, fun _ _ => ⟨N', xs', hp, by omega, by omega⟩, fun a => by omega, fun a => by omega⟩ ht hn⟩
  by_cases g4 : o.k ≤ 20
  · refine Wd.plays_tab (Inv w (k + 1)) w.heap.size o.k o.sec o.n o.wd o.s o.stop W (by omega) g4 ?_
    rw [← hie]
    have p := (ha.p (6 + i) (by omega)).2.2.2.1 (by omega) (by omega)
    have hcr := ha.c (10 + (6 + i)) (by omega)
    refine (Wd.wo_pwl w.heap.size i (B (6 + i)) (B (10 + (6 + i))) w.heap.size k (F (6 + i)) o _ hi2 p hk ha.bel.size (ha.c (6 + i) (by omega)) (by rw [show 16 + i = 10 + (6 + i) by omega]; exact hcr)).mono ?_
    rintro e W' ⟨rfl, F', hp, ht, hn⟩
    refine ⟨rfl, ha.step (6 + i) (by omega) ⟨fun a => by omega, fun a => by omega, fun a => by omega, fun _ _ => hp, fun a => by omega⟩ ht hn⟩
  · refine Nd.plays_tab (Inv w (k + 1)) w.heap.size o.k o.sec o.n o.wd o.s o.stop W (by omega) h4 ?_
    rw [← hie]
    have p := (ha.p (8 + i) (by omega)).2.2.2.2 (by omega)
    have hcr := ha.c (10 + (8 + i)) (by omega)
    refine (Nd.wo_pwl w.heap.size i (B (8 + i)) (B (10 + (8 + i))) w.heap.size k (F (8 + i)) o _ hi2 p hk ha.bel.size (ha.c (8 + i) (by omega)) (by rw [show 18 + i = 10 + (8 + i) by omega]; exact hcr)).mono ?_
    rintro e W' ⟨rfl, F', hp, ht, hn⟩
    refine ⟨rfl, ha.step (8 + i) (by omega) ⟨fun a => by omega, fun a => by omega, fun a => by omega, fun a => by omega, fun _ => hp⟩ ht hn⟩

set_option maxHeartbeats 1000000 in
theorem plays_any (one two : Int) (a : Option Addr) (cap : Nat) (ops : List OpD) (w : World) (hl : LOps w a ops) (hcap : ops.length ≤ 9223372036854775807) :
    Calls Tryz.prog 6 #[.int .i64 one, .int .i64 two, .slice a ops.length cap] w fun e w' => e = .returned (.bool true) ∧ Below w.heap.size w w' := by
  have hr := run_core one two 1 26 a cap ops w (Inv w) hl hcap (fun W D M L hb h => inv_start w W one two D M L hb h) (fun k o W hk hi h1 h4 => inv_step w k o W hk hi h1 h4)
    (fun k W ⟨B, m, F, h⟩ => ⟨B, m, F, h.more⟩)
    (fun k W ⟨_, _, _, h⟩ => h.bel)
  go_enter Tryz.func6, Tryz.ntmps6
  go_wp2_with fail
  refine hr.mono ?_
  rintro e w' ⟨rfl, hb⟩
  go_wp2
  go_ret
  exact ⟨rfl, hb⟩

end Go.Proofs.YtcjblafohfiiaabGreat.Pa
