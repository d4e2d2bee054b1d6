import Derived.Test.YtkekaifiahjljaaGreatDoorC23
set_option linter.unusedVariables false
set_option maxHeartbeats 8000000
set_option maxRecDepth 20000
namespace Go.Proofs.YtkekaifiahjljaaGreatDoor
open Go.RowKit Go.Shelf Go.Proofs.YtkekaifiahjljaaGreatDoor.Lt
structure Ll (w : World) (B R p : Nat) (vs : Nat → Value) (L : Nat → List Int) : Prop where
  h : ∃ cs, w.heap[R]? = some (.cells cs 24 (0, 0)) ∧ cs.size = p ∧ ∀ i, i < p → cs[i]? = some (vs i)
  l : ∀ i, i < p → Il w B (vs i) (L i)
  d : ∀ i j k, i < p → j < p → (vs i).ownBlock = some k → (vs j).ownBlock = some k → i = j
  lo : B ≤ R
def llF (R p : Nat) (vs : Nat → Value) : List Nat := R :: (List.range p).filterMap (fun i => (vs i).ownBlock)
variable {w w' : World} {B R p : Nat} {vs : Nat → Value} {L : Nat → List Int}
theorem mem_llF {k : Nat} : k ∈ llF R p vs ↔ k = R ∨ ∃ i, i < p ∧ (vs i).ownBlock = some k := by
  simp [llF, List.mem_filterMap]
theorem Ll.lt (h : Ll w B R p vs L) : R < w.heap.size := by
  obtain ⟨cs, h1, -⟩ := h.h
  exact Kg.heap_lt h1
theorem Ll.ne (h : Ll w B R p vs L) {i : Nat} (hi : i < p) : (vs i).ownBlock ≠ some R := fun e => by
  obtain ⟨cs, h1, -⟩ := h.h
  exact Kg.row_ne h1 (h.l i hi) (by decide) e.symm
theorem Ll.mem (h : Ll w B R p vs L) : ∀ k, k ∈ llF R p vs → B ≤ k ∧ k < w.heap.size := fun k hk => by
  rcases mem_llF.1 hk with rfl | ⟨i, hi, h1⟩
  · exact ⟨h.lo, h.lt⟩
  · exact World.ownsRow.lt (h.l i hi) k h1
theorem Ll.cell (h : Ll w B R p vs L) {i : Nat} (hi : i < p) : w.cell? ⟨R, i, none⟩ = some (vs i) := by
  obtain ⟨cs, h1, -, h2⟩ := h.h
  exact (Kg.heap_cell h1 i).trans (h2 i hi)
theorem Ll.keep (h : Ll w B R p vs L) {G : List Nat} (ht : Kg.Touch G w w') (hG : ∀ k, k ∈ llF R p vs → k ∉ G) : Ll w' B R p vs L := by
  obtain ⟨cs, h1, h2, h3⟩ := h.h
  exact ⟨⟨cs, (ht.block _ (Kg.heap_lt h1) (hG R (mem_llF.2 (.inl rfl)))).trans h1, h2, h3⟩, fun i hi => Kg.row_keep2 (h.l i hi) ht (fun k hk => hG k (mem_llF.2 (.inr ⟨i, hi, hk⟩))), h.d, h.lo⟩
theorem Ll.put (h : Ll w B R p vs L) {i : Nat} (hi : i < p) {w8 : World} {v8 : Value} {l8 : List Int} (ht : Kg.Touch (vs i).ownBlock.toList w w8) (ho : Il w8 B v8 l8) (hn : ∀ k, v8.ownBlock = some k → (vs i).ownBlock = some k ∨ w.heap.size ≤ k) :
    Hid (Ll (w8.setCell ⟨R, i, none⟩ v8) B R p (fun j => if j = i then v8 else vs j) (fun j => if j = i then l8 else L j) ∧ Kg.Touch (llF R p vs) w (w8.setCell ⟨R, i, none⟩ v8) ∧ Kg.Newer w.heap.size (llF R p vs) (llF R p (fun j => if j = i then v8 else vs j))) ∧ w8.cell? ⟨R, i, none⟩ = some (vs i) ∧ w8.frozen? ⟨R, i, none⟩ = false := by
  obtain ⟨cs, h1, h2, h3⟩ := h.h
  have hR : R ∉ (vs i).ownBlock.toList := fun hm => by rw [Option.mem_toList] at hm; exact h.ne hi hm
  have h8 := (ht.block _ (Kg.heap_lt h1) hR).trans h1
  have hR8 : v8.ownBlock ≠ some R := fun e => Kg.row_ne h8 ho (by decide) e.symm
  have tS : Kg.Touch [R] w8 (w8.setCell ⟨R, i, none⟩ v8) := Kg.Touch.setCell _ _ _ (by simp)
  refine ⟨⟨⟨⟨cs.setIfInBounds i v8, Kg.heap_set h8 i v8, by simpa using h2, fun j hj => ?_⟩, fun j hj => ?_, fun a b k ha hb h4 h5 => ?_, h.lo⟩, ?_, fun k hk => ?_⟩, (Kg.heap_cell h8 i).trans (h3 i hi), Kg.heap_frozen h8 i⟩
  · rw [Array.getElem?_setIfInBounds]
    by_cases e : i = j
    · subst e
      rw [if_pos rfl, if_pos (by omega), if_pos rfl]
    · rw [if_neg e, if_neg (fun h => e h.symm)]
      exact h3 j hj
  · by_cases e : j = i
    · rw [if_pos e, if_pos e]
      exact Kg.row_keep2 ho tS (fun k hk => by simp only [List.mem_singleton]; exact fun e => hR8 (by rw [hk, e]))
    · rw [if_neg e, if_neg e]
      have h6 := Kg.row_keep2 (h.l j hj) ht (fun k hk hm => by rw [Option.mem_toList] at hm; exact e (h.d j i k hj hi hk hm))
      exact Kg.row_keep2 h6 tS (fun k hk => by simp only [List.mem_singleton]; exact fun e => h.ne hj (by rw [hk, e]))
  · by_cases ea : a = i
    · by_cases eb : b = i
      · rw [ea, eb]
      · rw [if_pos ea] at h4
        rw [if_neg eb] at h5
        rcases hn k h4 with h6 | h6
        · exact absurd (h.d b i k hb hi h5 h6) eb
        · have := (World.ownsRow.lt (h.l b hb) k h5).2
          omega
    · rw [if_neg ea] at h4
      by_cases eb : b = i
      · rw [if_pos eb] at h5
        rcases hn k h5 with h6 | h6
        · exact absurd (h.d a i k ha hi h4 h6) ea
        · have := (World.ownsRow.lt (h.l a ha) k h4).2
          omega
      · rw [if_neg eb] at h5
        exact h.d a b k ha hb h4 h5
  · exact (ht.mono (fun k hk => .inl (mem_llF.2 (.inr ⟨i, hi, by rw [Option.mem_toList] at hk; exact hk⟩)))).trans (tS.mono (fun k hk => .inl (mem_llF.2 (.inl (by simpa using hk)))))
  · rcases mem_llF.1 hk with h4 | ⟨j, hj, h4⟩
    · exact .inl (mem_llF.2 (.inl h4))
    · by_cases e : j = i
      · rw [if_pos e] at h4
        rcases hn k h4 with h6 | h6
        · exact .inl (mem_llF.2 (.inr ⟨i, hi, h6⟩))
        · exact .inr h6
      · rw [if_neg e] at h4
        exact .inl (mem_llF.2 (.inr ⟨j, hj, h4⟩))
theorem Ll.push (h : Ll w B R p vs L) (hB : B ≤ w.heap.size) {i : Nat} (hi : i < p) {w8 : World} {v8 : Value} {x : Int} (h8 : w8.ownsRow B 3 1 v8 ((L i).length + 1) (Kg.ints (L i) ++ [.int .i64 x])) (g8 : (w.alloc (.cells #[.int .i64 x] 3)).grownBy w8 (vs i).ownBlock) (e8 : v8.ownBlock = (vs i).ownBlock ∨ v8.ownBlock = some (w.alloc (.cells #[.int .i64 x] 3)).heap.size) :
    Hid (Ll (w8.setCell ⟨R, i, none⟩ v8) B R p (fun j => if j = i then v8 else vs j) (fun j => if j = i then L i ++ [x] else L j) ∧ Kg.Touch (llF R p vs) w (w8.setCell ⟨R, i, none⟩ v8) ∧ Kg.Newer w.heap.size (llF R p vs) (llF R p (fun j => if j = i then v8 else vs j))) ∧ w8.cell? ⟨R, i, none⟩ = some (vs i) ∧ w8.frozen? ⟨R, i, none⟩ = false := by
  obtain ⟨s1, s2, -⟩ := Il.snoc (h.l i hi) h8 g8 hB
  have h10 : (w.alloc (.cells #[.int .i64 x] 3)).heap.size = w.heap.size + 1 := by simp
  rw [h10] at e8
  refine h.put hi s2 s1 (fun k hk => ?_)
  rcases e8 with h9 | h9
  · exact .inl (by rw [← h9]; exact hk)
  · rw [h9] at hk; cases hk; exact .inr (by omega)
structure Dw (w : World) (B A pb m : Nat) (v0 v2 : Value) (ord frs : List Nat) (R : Nat) : Prop where
  h : w.heap[A]? = some (.cells #[v0, .slice (some ⟨pb, 0, none⟩) m m, v2, .slice (some ⟨R, 0, none⟩) ord.length ord.length] 95 (0, 0))
  s : Il w B v0 (ord.map Int.ofNat)
  b : Il w B v2 (frs.map Int.ofNat)
  a : Fy w pb m (plv ord)
  lo : B ≤ A ∧ B ≤ pb
theorem Dw.keep {w w' : World} {B A pb m R : Nat} {v0 v2 : Value} {ord frs : List Nat} {G : List Nat} (h : Dw w B A pb m v0 v2 ord frs R) (ht : Kg.Touch G w w') (hG : ∀ k, k ∈ triF A pb v0 v2 → k ∉ G) : Dw w' B A pb m v0 v2 ord frs R := by
  have key : ∀ k, (k = A ∨ k = pb ∨ v0.ownBlock = some k ∨ v2.ownBlock = some k) → k ∉ G := fun k hk => hG k (by simp only [triF, List.mem_cons, List.mem_append, Option.mem_toList]; exact hk)
  exact ⟨(ht.block _ (Kg.heap_lt h.h) (key A (.inl rfl))).trans h.h, Kg.row_keep2 h.s ht (fun k hk => key k (.inr (.inr (.inl hk)))), Kg.row_keep2 h.b ht (fun k hk => key k (.inr (.inr (.inr hk)))), h.a.touch ht (key pb (.inr (.inl rfl))), h.lo⟩
structure Lk (W : Nat → List Nat) (ord : List Nat) (k j : Nat) (L : Nat → List Nat) (c : Nat) : Prop where
  m : ∀ q x, x ∈ L q ↔ (x < k ∧ Ed W ord x q) ∨ (x = k ∧ ∃ a b, ord[k]? = some a ∧ ord[q]? = some b ∧ b ∈ (W a).take j)
  n : ∀ q, (L q).length ≤ c
theorem Lk.start (W : Nat → List Nat) (ord : List Nat) : Lk W ord 0 0 (fun _ => []) 0 :=
  ⟨fun q x => ⟨fun h => by simp at h, fun h => by rcases h with ⟨h, -⟩ | ⟨-, a, b, -, -, h⟩
                                                  · omega
                                                  · simp at h⟩, fun q => Nat.le_refl _⟩
theorem Lk.put {W : Nat → List Nat} {ord : List Nat} {k j c : Nat} {L : Nat → List Nat} (h : Lk W ord k j L c) {a b q : Nat} (ha : ord[k]? = some a) (hb : (W a)[j]? = some b) (hq : ord[q]? = some b) (hu : ∀ q', ord[q']? = some b → q' = q) : Lk W ord k (j + 1) (fun x => if x = q then L q ++ [k] else L x) (c + 1) := by
  have ht : (W a).take (j + 1) = (W a).take j ++ [b] := by rw [List.take_add_one, hb]; rfl
  refine ⟨fun q' x => ?_, fun q' => ?_⟩
  · by_cases e : q' = q
    · subst e
      rw [if_pos rfl, List.mem_append, h.m]
      constructor
      · rintro ((h1 | ⟨h1, a', b', h2, h3, h4⟩) | h1)
        · exact .inl h1
        · refine .inr ⟨h1, a', b', h2, h3, ?_⟩
          rw [ha] at h2; cases h2
          rw [ht]; exact List.mem_append_left _ h4
        · have : x = k := by simpa using h1
          exact .inr ⟨this, a, b, ha, hq, by rw [ht]; simp⟩
      · rintro (h1 | ⟨h1, a', b', h2, h3, h4⟩)
        · exact .inl (.inl h1)
        · exact .inr (by simp [h1])
    · rw [if_neg e, h.m]
      constructor
      · rintro (h1 | ⟨h1, a', b', h2, h3, h4⟩)
        · exact .inl h1
        · refine .inr ⟨h1, a', b', h2, h3, ?_⟩
          rw [ha] at h2; cases h2
          rw [ht]; exact List.mem_append_left _ h4
      · rintro (h1 | ⟨h1, a', b', h2, h3, h4⟩)
        · exact .inl h1
        · refine .inr ⟨h1, a', b', h2, h3, ?_⟩
          rw [ha] at h2; cases h2
          rw [ht] at h4
          rcases List.mem_append.1 h4 with h5 | h5
          · exact h5
          · have : b' = b := by simpa using h5
            rw [this] at h3
            exact absurd (hu q' h3) e
  · by_cases e : q' = q
    · rw [if_pos e]
      have := h.n q
      simp only [List.length_append, List.length_cons, List.length_nil]
      omega
    · rw [if_neg e]
      have := h.n q'
      omega
theorem Lk.next {W : Nat → List Nat} {ord : List Nat} {k c : Nat} {L : Nat → List Nat} {a : Nat} (ha : ord[k]? = some a) (h : Lk W ord k (W a).length L c) : Lk W ord (k + 1) 0 L c := by
  refine ⟨fun q x => ?_, h.n⟩
  rw [h.m]
  constructor
  · rintro (⟨h1, h2⟩ | ⟨h1, a', b', h2, h3, h4⟩)
    · exact .inl ⟨by omega, h2⟩
    · subst h1
      rw [ha] at h2; cases h2
      exact .inl ⟨by omega, a, b', ha, h3, List.mem_of_mem_take h4⟩
  · rintro (⟨h1, h2⟩ | ⟨h1, a', b', h2, h3, h4⟩)
    · by_cases e : x = k
      · subst e
        obtain ⟨a', b', h3, h4, h5⟩ := h2
        rw [ha] at h3; cases h3
        exact .inr ⟨rfl, a, b', ha, h4, by rw [List.take_length]; exact h5⟩
      · exact .inl ⟨by omega, h2⟩
    · simp at h4
theorem Lk.all {W : Nat → List Nat} {ord : List Nat} {c : Nat} {L : Nat → List Nat} (h : Lk W ord ord.length 0 L c) : ∀ q x, x ∈ L q ↔ Ed W ord x q := fun q x => by
  rw [h.m]
  constructor
  · rintro (⟨-, h1⟩ | ⟨h1, a', b', h2, h3, h4⟩)
    · exact h1
    · simp at h4
  · intro h1
    obtain ⟨a, b, h2, -⟩ := id h1
    exact .inl ⟨(List.getElem?_eq_some_iff.1 h2).1, h1⟩
def Wys (n0 : Nat) (w : World) (v : Value) (m : Nat) (W : Nat → List Nat) : Prop :=
  ∃ q cap, v = .slice (some ⟨q, 0, none⟩) m cap ∧ q < n0 ∧ ∀ i, i < m → ∃ u, w.cell? ⟨q, i, none⟩ = some u ∧ Lrd n0 w u .i64 ((W i).map Int.ofNat)
theorem Wys.below {n0 m : Nat} {w w' : World} {v : Value} {W : Nat → List Nat} (h : Wys n0 w v m W) (b : Below n0 w w') : Wys n0 w' v m W := by
  obtain ⟨q, cap, h1, h2, h3⟩ := h
  refine ⟨q, cap, h1, h2, fun i hi => ?_⟩
  obtain ⟨u, h4, h5⟩ := h3 i hi
  exact ⟨u, (b.cell (p := ⟨q, i, none⟩) h2).trans h4, h5.below b⟩
theorem make_rows17 (m : Nat) (hm : m ≤ 1000000000001) : ∀ w, (Instr.makeSlice 48 (.int .i64 (m : Int)) (.int .i64 (m : Int))).run Tryz.prog w = .ok (.slice (some ⟨w.heap.size, 0, none⟩) m m) (w.alloc (.cells (madeCells #[.slice none 0 0] m) 24)) := fun w => by
  obtain ⟨i0, hi0, hz0, hz1, hz2⟩ := info_p17 infoL17
  have := run_make (P := Tryz.prog) w 48 24 i0 (.slice none 0 0) Tryz.underlying48 hi0 hz0 .i64 .i64 m m (by omega) (Int.le_refl _) (by rw [hz2]; omega) (by omega)
  rw [hz1, Nat.mul_one] at this
  exact this
theorem Ll.new (w : World) (p : Nat) : Ll (w.alloc (.cells (madeCells #[.slice none 0 0] p) 24)) w.heap.size w.heap.size p (fun _ => .slice none 0 0) (fun _ => []) :=
  ⟨⟨_, heap_alloc_new w _, by simp [madeCells], fun x hx => by simp [madeCells, hx, Nat.mod_one]⟩, fun i hi => World.ownsRow_nil _ _ _ _, fun i j k _ _ h => by simp [Value.ownBlock] at h, Nat.le_refl _⟩
theorem lookBack_any (n0 m T : Nat) (hT : T ≤ 1000000000) (hm : m ≤ 2000000) (W : Nat → List Nat) (v : Value) (B A pb : Nat) (v0 v2 : Value) (ord frs : List Nat) (hnd : ord.Nodup) (hop : 0 < ord.length) (hom : ord.length ≤ m) (hob : ∀ y, y ∈ ord → y < m) (hcl : ∀ a, a ∈ ord → ∀ b, b ∈ W a → b ∈ ord) (hTT : ∀ k, ((ord.take k).map (fun a => (W a).length)).sum ≤ T)
    (w : World) (R : Tri w B A pb m v0 v2 (ord.map Int.ofNat) (frs.map Int.ofNat) (plv ord)) (hW : Wys n0 w v m W) (hn0 : n0 ≤ B) :
    Calls Tryz.prog 109 #[.pointer (some ⟨A, 0, none⟩), v] w fun e w' => e = .returned (.tuple #[]) ∧ ∃ (Rb : Nat) (vs : Nat → Value) (L : Nat → List Nat), Dw w' B A pb m v0 v2 ord frs Rb ∧ Ll w' w.heap.size Rb ord.length vs (fun q => (L q).map Int.ofNat) ∧ (∀ q x, x ∈ L q ↔ Ed W ord x q) ∧ (∀ q, (L q).length ≤ T) ∧ Kg.Touch [A] w w' := by
  obtain ⟨wq, wc, rfl, hwq, hwr⟩ := id hW
  obtain ⟨i0, hi0, hj0, hj1, hj2⟩ := info_p17 infoI17
  have HI : Hid (Tryz.prog.info? 3 = some i0 ∧ i0.zero = some (.int .i64 0) ∧ i0.size = 1 ∧ i0.bytes = 8) := ⟨hi0, hj0, hj1, hj2⟩
  obtain ⟨i1, hi1, hk0, hk1, hk2⟩ := info_p17 infoL17
  clear hi0 hj0 hj1 hj2
  obtain ⟨a0, c0, e0⟩ := own_sl17 R.s
  rw [List.length_map] at e0
  subst e0
  have x0 := Kg.heap_cell R.h 0
  have x3 := Kg.heap_cell R.h 3
  have z3 := Kg.heap_frozen R.h 3
  simp only [List.getElem?_toArray, List.getElem?_cons_zero, List.getElem?_cons_succ] at x0 x3
  have HR : Hid (Tri w B A pb m (.slice a0 ord.length c0) v2 (ord.map Int.ofNat) (frs.map Int.ofNat) (plv ord)) := R
  have HW : Hid (Wys n0 w (.slice (some ⟨wq, 0, none⟩) m wc) m W) := hW
  have hplI : ord.length ≤ 1000000000001 := by omega
  have mk := make_rows17 ord.length hplI
  have b1 := Below.alloc (Below.refl w.heap.size w) (Nat.le_refl _) (.cells (madeCells #[.slice none 0 0] ord.length) 24 (0, 0))
  have hAw := Kg.heap_lt HR.out.h
  have y3 : (w.alloc (.cells (madeCells #[.slice none 0 0] ord.length) 24)).cell? ⟨A, 3, none⟩ = some (.slice none 0 0) := (b1.cell (p := ⟨A, 3, none⟩) hAw).trans x3
  have u3 : (w.alloc (.cells (madeCells #[.slice none 0 0] ord.length) 24)).frozen? ⟨A, 3, none⟩ = false := Kg.heap_frozen ((b1.block A hAw).trans HR.out.h) 3
  obtain ⟨wS, hwS⟩ : ∃ wS, wS = w.setCell ⟨A, 3, none⟩ (.slice (some ⟨w.heap.size, 0, none⟩) ord.length ord.length) := ⟨_, rfl⟩
  have tS : Kg.Touch [A] w wS := by rw [hwS]; exact Kg.Touch.setCell _ _ _ (by simp)
  have hsS : wS.heap.size = w.heap.size := by rw [hwS]; simp
  have hAS : wS.heap[A]? = some (.cells #[.slice a0 ord.length c0, .slice (some ⟨pb, 0, none⟩) m m, v2, .slice (some ⟨w.heap.size, 0, none⟩) ord.length ord.length] 95 (0, 0)) := by rw [hwS, Kg.heap_set HR.out.h]; rfl
  have HL0 : Hid (Ll ((w.setCell ⟨A, 3, none⟩ (.slice (some ⟨w.heap.size, 0, none⟩) ord.length ord.length)).alloc (.cells (madeCells #[.slice none 0 0] ord.length) 24)) w.heap.size w.heap.size ord.length (fun _ => .slice none 0 0) (fun _ => [])) := by
    have h9 := Ll.new wS ord.length
    rw [hsS] at h9
    rw [← hwS]
    exact h9
  have T1 : Kg.Touch [A] w ((w.setCell ⟨A, 3, none⟩ (.slice (some ⟨w.heap.size, 0, none⟩) ord.length ord.length)).alloc (.cells (madeCells #[.slice none 0 0] ord.length) 24)) := by
    rw [← hwS]
    exact tS.trans (Kg.Touch.alloc _ _ _)
  have HD0 : Hid (Dw ((w.setCell ⟨A, 3, none⟩ (.slice (some ⟨w.heap.size, 0, none⟩) ord.length ord.length)).alloc (.cells (madeCells #[.slice none 0 0] ord.length) 24)) B A pb m (.slice a0 ord.length c0) v2 ord frs w.heap.size) := by
    have h9 := HR.out
    refine ⟨?_, Kg.row_keep2 h9.s T1 (fun k hk => ?_), Kg.row_keep2 h9.b T1 (fun k hk => ?_), h9.a.touch T1 (by simpa using h9.ap.symm), h9.lo⟩
    · rw [← hwS]
      exact ((Below.alloc (Below.refl wS.heap.size wS) (Nat.le_refl _) _).block A (by omega)).trans hAS
    · simp only [List.mem_singleton]
      exact fun e => Kg.row_ne h9.h h9.s (by decide) (by rw [hk, e])
    · simp only [List.mem_singleton]
      exact fun e => Kg.row_ne h9.h h9.b (by decide) (by rw [hk, e])
  have HT1 : Hid (Kg.Touch [A] w ((w.setCell ⟨A, 3, none⟩ (.slice (some ⟨w.heap.size, 0, none⟩) ord.length ord.length)).alloc (.cells (madeCells #[.slice none 0 0] ord.length) 24))) := T1
  clear hwS tS hsS hAS
  clear hW hwr b1 T1
  go_enter Tryz.func109, Tryz.ntmps109
  go_upto_region 1 with fail
  obtain ⟨S, hS⟩ : ∃ S, S = w.heap.size := ⟨_, rfl⟩
  rw [← hS] at HL0 HD0 HT1 ⊢
  clear y3 u3 x0 x3 z3 mk
  generalize (w.setCell ⟨A, 3, none⟩ (.slice (some ⟨S, 0, none⟩) ord.length ord.length)).alloc (.cells (madeCells #[.slice none 0 0] ord.length) 24) = w2 at *
  have x0 := Kg.heap_cell HD0.out.h 0
  simp only [List.getElem?_toArray, List.getElem?_cons_zero] at x0
  go_upto_region 2 with fail
  have HS : Hid (S = w.heap.size) := hS
  have HOB : Hid (∀ y, y ∈ ord → y < m) := hob
  have HCL : Hid (∀ a, a ∈ ord → ∀ b, b ∈ W a → b ∈ ord) := hcl
  have HTT : Hid (∀ k, ((ord.take k).map (fun a => (W a).length)).sum ≤ T) := hTT
  have HND : Hid ord.Nodup := hnd
  have HN0 : Hid (n0 ≤ B ∧ B ≤ A ∧ A < S) := ⟨hn0, HR.out.lo.1, by rw [hS]; exact hAw⟩
  clear hS hob hcl hTT hnd x0
  go_loopw [4, 5, 7, 22] (fun _ _ _ v22 wr => ∃ (k c : Nat) (vs : Nat → Value) (L : Nat → List Nat), v22 = .int .i64 (k : Nat) ∧ k ≤ ord.length ∧ Hid (Dw wr B A pb m (.slice a0 ord.length c0) v2 ord frs S) ∧ Hid (Ll wr S S ord.length vs (fun q => (L q).map Int.ofNat)) ∧ Hid (Lk W ord k 0 L c) ∧ Hid (c ≤ ((ord.take k).map (fun a => (W a).length)).sum) ∧ Hid (Kg.Touch [A] w wr)) (fun _ _ _ v22 _ => ord.length - (intOf v22).toNat)
  case atStart => exact ⟨0, 0, _, (fun _ => []), rfl, Nat.zero_le _, HD0.out, HL0.out, Lk.start W ord, Nat.zero_le _, HT1.out⟩
  case round =>
    obtain ⟨k, c, vs, L, rfl, hk, R1, R2, R3, R4, R5⟩ := hrel
    by_cases hkl : k < ord.length
    · have hki : (k : Int) < (ord.length : Int) := by omega
      obtain ⟨a, ha⟩ : ∃ a, ord[k]? = some a := ⟨_, List.getElem?_eq_getElem hkl⟩
      have ham := HOB.out a (List.mem_of_getElem? ha)
      have hai : (a : Int) < (m : Int) := by omega
      obtain ⟨oa, oc, eo, -, hoc⟩ := row_at (Kg.row_base R1.out.s (Nat.zero_le _)) (by decide)
      obtain ⟨ob, eob, -, co⟩ := hoc k (.int .i64 (a : Nat)) (by rw [Kg.ints, List.getElem?_map, List.getElem?_map, ha]; rfl)
      simp only [Value.slice.injEq, List.length_map, true_and] at eo
      obtain ⟨rfl, rfl⟩ := eo
      subst eob
      have BW : Below n0 w wr := R5.out.below (by have := HN0.out; have := HR.out.sz; omega) (fun k hk => by have := HN0.out; simp at hk; omega)
      obtain ⟨wq', wc', ew, -, hwr⟩ := HW.out
      cases ew
      obtain ⟨u, cu0, lu⟩ := hwr a ham
      obtain ⟨ua, uc, eu, -, -⟩ := id lu
      rw [List.length_map] at eu
      subst eu
      have cu := (BW.cell (p := ⟨wq, a, none⟩) hwq).trans cu0
      have LU : Hid (Lrd n0 w (.slice ua (W a).length uc) .i64 ((W a).map Int.ofNat)) := lu
      have HA : Hid (ord[k]? = some a) := ha
      clear hoc hwr BW ha lu cu0
      go_upto_region 5 with fail
      go_loopw [7, 32] (fun _ v32 wi => ∃ (j c1 : Nat) (vs1 : Nat → Value) (L1 : Nat → List Nat), v32 = .int .i64 (j : Nat) ∧ j ≤ (W a).length ∧ Hid (Dw wi B A pb m (.slice (some ⟨ob, 0, none⟩) ord.length c0) v2 ord frs S) ∧ Hid (Ll wi S S ord.length vs1 (fun q => (L1 q).map Int.ofNat)) ∧ Hid (Lk W ord k j L1 c1) ∧ Hid (c1 ≤ ((ord.take k).map (fun a => (W a).length)).sum + j) ∧ Hid (Kg.Touch [A] w wi)) (fun _ v32 _ => (W a).length - (intOf v32).toNat)
      case atStart => exact ⟨0, c, vs, L, rfl, Nat.zero_le _, R1.out, R2.out, R3.out, R4.out, R5.out⟩
      case round =>
        obtain ⟨j, c1, vs1, L1, rfl, hj, Q1, Q2, Q3, Q4, Q5⟩ := hrel
        by_cases hjl : j < (W a).length
        · have hji : (j : Int) < ((W a).length : Int) := by omega
          obtain ⟨b, hb⟩ : ∃ b, (W a)[j]? = some b := ⟨_, List.getElem?_eq_getElem hjl⟩
          have hbo := HCL.out a (List.mem_of_getElem? HA.out) b (List.mem_of_getElem? hb)
          have hbm := HOB.out b hbo
          obtain ⟨q, hq⟩ := List.getElem?_of_mem hbo
          have hql := (List.getElem?_eq_some_iff.1 hq).1
          have hpq : plv ord b = (q : Int) := by
            unfold plv
            rw [if_pos hbo]
            have h9 := (List.getElem?_eq_some_iff.1 hq).2
            rw [← h9, HND.out.idxOf_getElem q hql]
          have BW : Below n0 w wr := Q5.out.below (by have := HN0.out; have := HR.out.sz; omega) (fun k hk => by have := HN0.out; simp at hk; omega)
          obtain ⟨ua', uc', eu', -, hlu⟩ := LU.out.below BW
          rw [List.length_map] at eu'
          simp only [Value.slice.injEq, true_and] at eu'
          obtain ⟨rfl, rfl⟩ := eu'
          obtain ⟨g, off, rfl, -, cg⟩ := hlu j (b : Nat) (by rw [List.getElem?_map, hb]; rfl)
          have HB : Hid ((W a)[j]? = some b) := hb
          have HQ : Hid (ord[q]? = some b) := hq
          obtain ⟨va, vc, ev⟩ := own_sl17 (Q2.out.l q hql)
          rw [List.length_map] at ev
          have HEV : Hid (vs1 q = .slice va (L1 q).length vc) := ev
          have hln : (L1 q).length ≤ 1000000000 ∧ (W a).length ≤ 1000000000 := by
            have h1 := Q3.out.n q
            have h2 := Q4.out
            have h3 := HTT.out (k + 1)
            have h9 : ord.take (k + 1) = ord.take k ++ [a] := by rw [List.take_add_one, HA.out]; rfl
            rw [h9, List.map_append, List.sum_append] at h3
            have h5 : ([a].map (fun a => (W a).length)).sum = (W a).length := by simp
            rw [h5] at h3
            omega
          obtain ⟨hln, hjT⟩ := hln
          have hbi : (b : Int) < (m : Int) := by omega
          have hqi : (q : Int) < (ord.length : Int) := by omega
          have hSA : S ∉ [A] := by have := HN0.out; simp; omega
          clear hb hbo hq BW hlu ev cu co R1 R2 R3 R4 R5
          go_upto_region 7 with fail
          have s0 : wr.drew.cell? ⟨A, 1, none⟩ = some (.slice (some ⟨pb, 0, none⟩) m m) := Kg.heap_cell Q1.out.h 1
          have s1 : wr.drew.cell? ⟨A, 3, none⟩ = some (.slice (some ⟨S, 0, none⟩) ord.length ord.length) := Kg.heap_cell Q1.out.h 3
          have s2 : wr.drew.cell? ⟨pb, b, none⟩ = some (.int .i64 (q : Nat)) := by have h9 := Q1.out.a.cell hbm; rw [hpq] at h9; exact h9
          have s3 : wr.drew.cell? ⟨S, q, none⟩ = some (.slice va (L1 q).length vc) := by have h9 := Q2.out.cell hql; rw [HEV.out] at h9; exact h9
          have hAw1 := Kg.heap_lt Q1.out.h
          have hpw1 := Q1.out.a.lt
          have hSw1 := Q2.out.lt
          clear cg
          refine Kg.wp_region_E (S := fun w' => w'.cell? ⟨A, 1, none⟩ = some (.slice (some ⟨pb, 0, none⟩) m m) ∧ w'.cell? ⟨A, 3, none⟩ = some (.slice (some ⟨S, 0, none⟩) ord.length ord.length) ∧ w'.cell? ⟨pb, b, none⟩ = some (.int .i64 (q : Nat)) ∧ w'.cell? ⟨S, q, none⟩ = some (.slice va (L1 q).length vc)) 28 Kg.mixed ⟨s0, s1, s2, s3⟩ (fun hHeld => ?_)
          have hAB := And.intro s0 s1
          clear s0 s1 s2 s3
          refine Kg.wpAnyE_take (i := 0) (v := (.pointer (some ⟨A, 0, none⟩))) (by kernel_rfl) (by decide) rfl (by kernel_rfl) (by kernel_rfl) (by kernel_rfl) (fun _ _ _ h => h) (Or.inl ⟨by rfl, fun w hSw => ?_⟩) (by assumption) ?_
          · obtain ⟨s0, s1, s2, s3⟩ := hSw
            go_simp
          change Kg.wpAnyE _ _ _ _ _ _ _ _ (Act.put _ (some 36) (.pointer (some ⟨A, 0, none⟩))) _
          simp only [Act.put, List.setIfInBounds_toArray, List.set_cons_zero, List.set_cons_succ]
          refine Kg.wpAnyE_take (i := 1) (v := (.pointer (some ⟨A, 0, none⟩))) (by kernel_rfl) (by decide) rfl (by kernel_rfl) (by kernel_rfl) (by kernel_rfl) (fun _ _ _ h => h) (Or.inl ⟨by rfl, fun w hSw => ?_⟩) (by assumption) ?_
          · obtain ⟨s0, s1, s2, s3⟩ := hSw
            go_simp
          change Kg.wpAnyE _ _ _ _ _ _ _ _ (Act.put _ (some 37) (.pointer (some ⟨A, 0, none⟩))) _
          simp only [Act.put, List.setIfInBounds_toArray, List.set_cons_zero, List.set_cons_succ]
          refine Kg.wpAnyE_take (i := 2) (v := (.pointer (some ⟨A, 3, none⟩))) (by kernel_rfl) (by decide) rfl (by kernel_rfl) (by kernel_rfl) (by kernel_rfl) (fun _ _ _ h => h) (Or.inl ⟨by rfl, fun w hSw => ?_⟩) (by assumption) ?_
          · obtain ⟨s0, s1, s2, s3⟩ := hSw
            go_simp
          change Kg.wpAnyE _ _ _ _ _ _ _ _ (Act.put _ (some 38) (.pointer (some ⟨A, 3, none⟩))) _
          simp only [Act.put, List.setIfInBounds_toArray, List.set_cons_zero, List.set_cons_succ]
          refine Kg.wpAnyE_take (i := 3) (v := (.slice (some ⟨S, 0, none⟩) ord.length ord.length)) (by kernel_rfl) (by decide) rfl (by kernel_rfl) (by kernel_rfl) (by kernel_rfl) (fun _ _ _ h => h) (Or.inl ⟨by rfl, fun w hSw => ?_⟩) (by assumption) ?_
          · obtain ⟨s0, s1, s2, s3⟩ := hSw
            go_simp
          change Kg.wpAnyE _ _ _ _ _ _ _ _ (Act.put _ (some 39) (.slice (some ⟨S, 0, none⟩) ord.length ord.length)) _
          simp only [Act.put, List.setIfInBounds_toArray, List.set_cons_zero, List.set_cons_succ]
          refine Kg.wpAnyE_take (i := 4) (v := (.pointer (some ⟨A, 0, none⟩))) (by kernel_rfl) (by decide) rfl (by kernel_rfl) (by kernel_rfl) (by kernel_rfl) (fun _ _ _ h => h) (Or.inl ⟨by rfl, fun w hSw => ?_⟩) (by assumption) ?_
          · obtain ⟨s0, s1, s2, s3⟩ := hSw
            go_simp
          change Kg.wpAnyE _ _ _ _ _ _ _ _ (Act.put _ (some 40) (.pointer (some ⟨A, 0, none⟩))) _
          simp only [Act.put, List.setIfInBounds_toArray, List.set_cons_zero, List.set_cons_succ]
          refine Kg.wpAnyE_take (i := 5) (v := (.pointer (some ⟨A, 0, none⟩))) (by kernel_rfl) (by decide) rfl (by kernel_rfl) (by kernel_rfl) (by kernel_rfl) (fun _ _ _ h => h) (Or.inl ⟨by rfl, fun w hSw => ?_⟩) (by assumption) ?_
          · obtain ⟨s0, s1, s2, s3⟩ := hSw
            go_simp
          change Kg.wpAnyE _ _ _ _ _ _ _ _ (Act.put _ (some 41) (.pointer (some ⟨A, 0, none⟩))) _
          simp only [Act.put, List.setIfInBounds_toArray, List.set_cons_zero, List.set_cons_succ]
          refine Kg.wpAnyE_take (i := 6) (v := (.pointer (some ⟨A, 1, none⟩))) (by kernel_rfl) (by decide) rfl (by kernel_rfl) (by kernel_rfl) (by kernel_rfl) (fun _ _ _ h => h) (Or.inl ⟨by rfl, fun w hSw => ?_⟩) (by assumption) ?_
          · obtain ⟨s0, s1, s2, s3⟩ := hSw
            go_simp
          change Kg.wpAnyE _ _ _ _ _ _ _ _ (Act.put _ (some 42) (.pointer (some ⟨A, 1, none⟩))) _
          simp only [Act.put, List.setIfInBounds_toArray, List.set_cons_zero, List.set_cons_succ]
          refine Kg.wpAnyE_take (i := 7) (v := (.slice (some ⟨pb, 0, none⟩) m m)) (by kernel_rfl) (by decide) rfl (by kernel_rfl) (by kernel_rfl) (by kernel_rfl) (fun _ _ _ h => h) (Or.inl ⟨by rfl, fun w hSw => ?_⟩) (by assumption) ?_
          · obtain ⟨s0, s1, s2, s3⟩ := hSw
            go_simp
          change Kg.wpAnyE _ _ _ _ _ _ _ _ (Act.put _ (some 43) (.slice (some ⟨pb, 0, none⟩) m m)) _
          simp only [Act.put, List.setIfInBounds_toArray, List.set_cons_zero, List.set_cons_succ]
          refine Kg.wpAnyE_take (i := 8) (v := (.int .i64 (b : Nat))) (by kernel_rfl) (by decide) rfl (by kernel_rfl) (by kernel_rfl) (by kernel_rfl) (fun _ _ _ h => h) (Or.inl ⟨by rfl, fun w hSw => ?_⟩) (by assumption) ?_
          · obtain ⟨s0, s1, s2, s3⟩ := hSw
            go_simp
          change Kg.wpAnyE _ _ _ _ _ _ _ _ (Act.put _ (some 44) (.int .i64 (b : Nat))) _
          simp only [Act.put, List.setIfInBounds_toArray, List.set_cons_zero, List.set_cons_succ]
          refine Kg.wpAnyE_take (i := 9) (v := (.pointer (some ⟨pb, b, none⟩))) (by kernel_rfl) (by decide) rfl (by kernel_rfl) (by kernel_rfl) (by kernel_rfl) (fun _ _ _ h => h) (Or.inl ⟨by rfl, fun w hSw => ?_⟩) (by assumption) ?_
          · obtain ⟨s0, s1, s2, s3⟩ := hSw
            go_simp
          change Kg.wpAnyE _ _ _ _ _ _ _ _ (Act.put _ (some 45) (.pointer (some ⟨pb, b, none⟩))) _
          simp only [Act.put, List.setIfInBounds_toArray, List.set_cons_zero, List.set_cons_succ]
          refine Kg.wpAnyE_take (i := 10) (v := (.int .i64 (q : Nat))) (by kernel_rfl) (by decide) rfl (by kernel_rfl) (by kernel_rfl) (by kernel_rfl) (fun _ _ _ h => h) (Or.inl ⟨by rfl, fun w hSw => ?_⟩) (by assumption) ?_
          · obtain ⟨s0, s1, s2, s3⟩ := hSw
            go_simp
          change Kg.wpAnyE _ _ _ _ _ _ _ _ (Act.put _ (some 46) (.int .i64 (q : Nat))) _
          simp only [Act.put, List.setIfInBounds_toArray, List.set_cons_zero, List.set_cons_succ]
          refine Kg.wpAnyE_take (i := 11) (v := (.pointer (some ⟨A, 0, none⟩))) (by kernel_rfl) (by decide) rfl (by kernel_rfl) (by kernel_rfl) (by kernel_rfl) (fun _ _ _ h => h) (Or.inl ⟨by rfl, fun w hSw => ?_⟩) (by assumption) ?_
          · obtain ⟨s0, s1, s2, s3⟩ := hSw
            go_simp
          change Kg.wpAnyE _ _ _ _ _ _ _ _ (Act.put _ (some 47) (.pointer (some ⟨A, 0, none⟩))) _
          simp only [Act.put, List.setIfInBounds_toArray, List.set_cons_zero, List.set_cons_succ]
          refine Kg.wpAnyE_take (i := 12) (v := (.pointer (some ⟨A, 0, none⟩))) (by kernel_rfl) (by decide) rfl (by kernel_rfl) (by kernel_rfl) (by kernel_rfl) (fun _ _ _ h => h) (Or.inl ⟨by rfl, fun w hSw => ?_⟩) (by assumption) ?_
          · obtain ⟨s0, s1, s2, s3⟩ := hSw
            go_simp
          change Kg.wpAnyE _ _ _ _ _ _ _ _ (Act.put _ (some 48) (.pointer (some ⟨A, 0, none⟩))) _
          simp only [Act.put, List.setIfInBounds_toArray, List.set_cons_zero, List.set_cons_succ]
          refine Kg.wpAnyE_take (i := 13) (v := (.pointer (some ⟨A, 3, none⟩))) (by kernel_rfl) (by decide) rfl (by kernel_rfl) (by kernel_rfl) (by kernel_rfl) (fun _ _ _ h => h) (Or.inl ⟨by rfl, fun w hSw => ?_⟩) (by assumption) ?_
          · obtain ⟨s0, s1, s2, s3⟩ := hSw
            go_simp
          change Kg.wpAnyE _ _ _ _ _ _ _ _ (Act.put _ (some 49) (.pointer (some ⟨A, 3, none⟩))) _
          simp only [Act.put, List.setIfInBounds_toArray, List.set_cons_zero, List.set_cons_succ]
          refine Kg.wpAnyE_take (i := 14) (v := (.slice (some ⟨S, 0, none⟩) ord.length ord.length)) (by kernel_rfl) (by decide) rfl (by kernel_rfl) (by kernel_rfl) (by kernel_rfl) (fun _ _ _ h => h) (Or.inl ⟨by rfl, fun w hSw => ?_⟩) (by assumption) ?_
          · obtain ⟨s0, s1, s2, s3⟩ := hSw
            go_simp
          change Kg.wpAnyE _ _ _ _ _ _ _ _ (Act.put _ (some 50) (.slice (some ⟨S, 0, none⟩) ord.length ord.length)) _
          simp only [Act.put, List.setIfInBounds_toArray, List.set_cons_zero, List.set_cons_succ]
          refine Kg.wpAnyE_take (i := 15) (v := (.pointer (some ⟨A, 0, none⟩))) (by kernel_rfl) (by decide) rfl (by kernel_rfl) (by kernel_rfl) (by kernel_rfl) (fun _ _ _ h => h) (Or.inl ⟨by rfl, fun w hSw => ?_⟩) (by assumption) ?_
          · obtain ⟨s0, s1, s2, s3⟩ := hSw
            go_simp
          change Kg.wpAnyE _ _ _ _ _ _ _ _ (Act.put _ (some 51) (.pointer (some ⟨A, 0, none⟩))) _
          simp only [Act.put, List.setIfInBounds_toArray, List.set_cons_zero, List.set_cons_succ]
          refine Kg.wpAnyE_take (i := 16) (v := (.pointer (some ⟨A, 0, none⟩))) (by kernel_rfl) (by decide) rfl (by kernel_rfl) (by kernel_rfl) (by kernel_rfl) (fun _ _ _ h => h) (Or.inl ⟨by rfl, fun w hSw => ?_⟩) (by assumption) ?_
          · obtain ⟨s0, s1, s2, s3⟩ := hSw
            go_simp
          change Kg.wpAnyE _ _ _ _ _ _ _ _ (Act.put _ (some 52) (.pointer (some ⟨A, 0, none⟩))) _
          simp only [Act.put, List.setIfInBounds_toArray, List.set_cons_zero, List.set_cons_succ]
          refine Kg.wpAnyE_take (i := 17) (v := (.pointer (some ⟨A, 1, none⟩))) (by kernel_rfl) (by decide) rfl (by kernel_rfl) (by kernel_rfl) (by kernel_rfl) (fun _ _ _ h => h) (Or.inl ⟨by rfl, fun w hSw => ?_⟩) (by assumption) ?_
          · obtain ⟨s0, s1, s2, s3⟩ := hSw
            go_simp
          change Kg.wpAnyE _ _ _ _ _ _ _ _ (Act.put _ (some 53) (.pointer (some ⟨A, 1, none⟩))) _
          simp only [Act.put, List.setIfInBounds_toArray, List.set_cons_zero, List.set_cons_succ]
          refine Kg.wpAnyE_take (i := 18) (v := (.slice (some ⟨pb, 0, none⟩) m m)) (by kernel_rfl) (by decide) rfl (by kernel_rfl) (by kernel_rfl) (by kernel_rfl) (fun _ _ _ h => h) (Or.inl ⟨by rfl, fun w hSw => ?_⟩) (by assumption) ?_
          · obtain ⟨s0, s1, s2, s3⟩ := hSw
            go_simp
          change Kg.wpAnyE _ _ _ _ _ _ _ _ (Act.put _ (some 54) (.slice (some ⟨pb, 0, none⟩) m m)) _
          simp only [Act.put, List.setIfInBounds_toArray, List.set_cons_zero, List.set_cons_succ]
          refine Kg.wpAnyE_take (i := 19) (v := (.int .i64 (b : Nat))) (by kernel_rfl) (by decide) rfl (by kernel_rfl) (by kernel_rfl) (by kernel_rfl) (fun _ _ _ h => h) (Or.inl ⟨by rfl, fun w hSw => ?_⟩) (by assumption) ?_
          · obtain ⟨s0, s1, s2, s3⟩ := hSw
            go_simp
          change Kg.wpAnyE _ _ _ _ _ _ _ _ (Act.put _ (some 55) (.int .i64 (b : Nat))) _
          simp only [Act.put, List.setIfInBounds_toArray, List.set_cons_zero, List.set_cons_succ]
          refine Kg.wpAnyE_take (i := 20) (v := (.pointer (some ⟨pb, b, none⟩))) (by kernel_rfl) (by decide) rfl (by kernel_rfl) (by kernel_rfl) (by kernel_rfl) (fun _ _ _ h => h) (Or.inl ⟨by rfl, fun w hSw => ?_⟩) (by assumption) ?_
          · obtain ⟨s0, s1, s2, s3⟩ := hSw
            go_simp
          change Kg.wpAnyE _ _ _ _ _ _ _ _ (Act.put _ (some 56) (.pointer (some ⟨pb, b, none⟩))) _
          simp only [Act.put, List.setIfInBounds_toArray, List.set_cons_zero, List.set_cons_succ]
          refine Kg.wpAnyE_take (i := 21) (v := (.int .i64 (q : Nat))) (by kernel_rfl) (by decide) rfl (by kernel_rfl) (by kernel_rfl) (by kernel_rfl) (fun _ _ _ h => h) (Or.inl ⟨by rfl, fun w hSw => ?_⟩) (by assumption) ?_
          · obtain ⟨s0, s1, s2, s3⟩ := hSw
            go_simp
          change Kg.wpAnyE _ _ _ _ _ _ _ _ (Act.put _ (some 57) (.int .i64 (q : Nat))) _
          simp only [Act.put, List.setIfInBounds_toArray, List.set_cons_zero, List.set_cons_succ]
          refine Kg.wpAnyE_take (i := 22) (v := (.pointer (some ⟨S, q, none⟩))) (by kernel_rfl) (by decide) rfl (by kernel_rfl) (by kernel_rfl) (by kernel_rfl) (fun _ _ _ h => h) (Or.inl ⟨by rfl, fun w hSw => ?_⟩) (by assumption) ?_
          · obtain ⟨s0, s1, s2, s3⟩ := hSw
            go_simp
          change Kg.wpAnyE _ _ _ _ _ _ _ _ (Act.put _ (some 58) (.pointer (some ⟨S, q, none⟩))) _
          simp only [Act.put, List.setIfInBounds_toArray, List.set_cons_zero, List.set_cons_succ]
          refine Kg.wpAnyE_take (i := 23) (v := (.slice va (L1 q).length vc)) (by kernel_rfl) (by decide) rfl (by kernel_rfl) (by kernel_rfl) (by kernel_rfl) (fun _ _ _ h => h) (Or.inl ⟨by rfl, fun w hSw => ?_⟩) (by assumption) ?_
          · obtain ⟨s0, s1, s2, s3⟩ := hSw
            go_simp
          change Kg.wpAnyE _ _ _ _ _ _ _ _ (Act.put _ (some 59) (.slice va (L1 q).length vc)) _
          simp only [Act.put, List.setIfInBounds_toArray, List.set_cons_zero, List.set_cons_succ]
          refine Kg.wpAnyE_take (i := 24) (v := (.int .i64 (k : Nat))) (by kernel_rfl) (by decide) rfl (by kernel_rfl) (by kernel_rfl) (by kernel_rfl) (fun _ _ _ h => h) (Or.inl ⟨by rfl, fun w hSw => ?_⟩) (by assumption) ?_
          · obtain ⟨s0, s1, s2, s3⟩ := hSw
            go_simp
          change Kg.wpAnyE _ _ _ _ _ _ _ _ (Act.put _ (some 60) (.int .i64 (k : Nat))) _
          simp only [Act.put, List.setIfInBounds_toArray, List.set_cons_zero, List.set_cons_succ]
          have hwd : wr.drew.heap.size = wr.heap.size := rfl
          have b2 := Below.alloc (Below.refl wr.drew.heap.size wr.drew) (Nat.le_refl _) (.cells #[.int .i64 (k : Nat)] 3 (0, 0))
          have hS2 : (wr.drew.alloc (.cells #[.int .i64 (k : Nat)] 3)).cell? ⟨A, 1, none⟩ = some (.slice (some ⟨pb, 0, none⟩) m m) ∧ (wr.drew.alloc (.cells #[.int .i64 (k : Nat)] 3)).cell? ⟨A, 3, none⟩ = some (.slice (some ⟨S, 0, none⟩) ord.length ord.length) ∧ (wr.drew.alloc (.cells #[.int .i64 (k : Nat)] 3)).cell? ⟨pb, b, none⟩ = some (.int .i64 (q : Nat)) ∧ (wr.drew.alloc (.cells #[.int .i64 (k : Nat)] 3)).cell? ⟨S, q, none⟩ = some (.slice va (L1 q).length vc) :=
            ⟨(b2.cell (p := ⟨A, 1, none⟩) hAw1).trans hHeld.1, (b2.cell (p := ⟨A, 3, none⟩) hAw1).trans hHeld.2.1, (b2.cell (p := ⟨pb, b, none⟩) hpw1).trans hHeld.2.2.1, (b2.cell (p := ⟨S, q, none⟩) hSw1).trans hHeld.2.2.2⟩
          refine Kg.wpAnyE_one (i := 25) (by kernel_rfl) rfl (fun K hK => ?_)
          go_simp
          refine hK.out _ _ hS2 (fun hHeld2 => ?_)
          clear hK K hHeld hAB
          have HRow : Hid ((wr.drew.alloc (.cells #[.int .i64 (k : Nat)] 3)).ownsRow S 3 1 (.slice va (L1 q).length vc) (L1 q).length (Kg.ints ((L1 q).map Int.ofNat))) := by
            have h9 := Kg.row_keep2 (G := []) (Q2.out.l q hql) ((Kg.Touch.drew _ wr).trans (Kg.Touch.alloc _ _ (.cells #[.int .i64 (k : Nat)] 3))) (fun _ _ => by simp)
            rw [HEV.out, List.length_map] at h9
            exact h9
          refine Kg.wpAnyE_one (i := 26) (by kernel_rfl) rfl (fun K hK => ?_)
          refine step_append_own_at rfl (.tmp 59) (.tmp 61) 24 rfl S 3 i0 (.int .i64 0) 1 8 Tryz.underlying24 HI.out.1 HI.out.2.1 HI.out.2.2.1 HI.out.2.2.2 rfl (by decide) (.slice va (L1 q).length vc) (L1 q).length (Kg.ints ((L1 q).map Int.ofNat)) rfl HRow.out ⟨wr.drew.heap.size, 0, none⟩ 1 1 [.int .i64 (k : Nat)] rfl rfl (cell_one17 _ _ _) (by simp [Value.oneCell']) (by simp only [maxLen]; omega) (by omega) (by simp; omega) ?_
          intro v8 w8 h8 g8 e8
          have hQd : Ll wr.drew S S ord.length vs1 (fun q => (L1 q).map Int.ofNat) := Q2.out.keep (Kg.Touch.drew [] wr) (fun _ _ => by simp)
          obtain ⟨hp1, hp2, hp3⟩ := hQd.push (x := (k : Nat)) (by rw [hwd]; omega) hql (by rw [List.length_map]; exact h8) (by rw [HEV.out]; exact g8) (by rw [HEV.out]; exact e8)
          have t9 : Kg.Touch (Value.slice va (L1 q).length vc).ownBlock.toList wr.drew w8 := (Kg.Touch.alloc _ _ _).trans (Kg.Touch.grown g8 (fun k hk => by rw [Option.mem_toList]; exact hk.symm ▸ rfl))
          have hown : ∀ x, x < S → x ∉ (Value.slice va (L1 q).length vc).ownBlock.toList := fun x hx hm => by
            rw [Option.mem_toList] at hm
            have h9 := (World.ownsRow.lt HRow.out x hm).1
            omega
          have hpS : pb < S := by rw [HS.out]; exact HR.out.a.lt
          have hAS := HN0.out.2.2
          have hS3 : w8.cell? ⟨A, 1, none⟩ = some (.slice (some ⟨pb, 0, none⟩) m m) ∧ w8.cell? ⟨A, 3, none⟩ = some (.slice (some ⟨S, 0, none⟩) ord.length ord.length) ∧ w8.cell? ⟨pb, b, none⟩ = some (.int .i64 (q : Nat)) ∧ w8.cell? ⟨S, q, none⟩ = some (.slice va (L1 q).length vc) :=
            ⟨(touch_cell t9 hAw1 (hown A hAS) 1).trans (Kg.heap_cell Q1.out.h 1), (touch_cell t9 hAw1 (hown A hAS) 3).trans (Kg.heap_cell Q1.out.h 3), (touch_cell t9 hpw1 (hown pb hpS) b).trans (by have h9 := Q1.out.a.cell hbm; rw [hpq] at h9; exact h9), by rw [← HEV.out]; exact hp2⟩
          have HPN : Hid _ := hp1.out
          obtain ⟨a8, c8, ev8⟩ := own_sl17 h8
          subst ev8
          refine hK.out _ _ hS3 (fun hHeld3 => ?_)
          clear hK K hHeld2 hS2 hp1 hp2 h8 g8 e8 hQd HRow t9
          change Kg.wpAnyE _ _ _ _ _ _ _ _ (Act.put _ (some 62) (.slice a8 ((L1 q).length + 1) c8)) _
          simp only [Act.put, List.setIfInBounds_toArray, List.set_cons_zero, List.set_cons_succ]
          refine Kg.wpAnyE_take (i := 27) (v := (.pointer (some ⟨S, q, none⟩))) (by kernel_rfl) (by decide) rfl (by kernel_rfl) (by kernel_rfl) (by kernel_rfl) (fun _ _ _ h => h) (Or.inl ⟨by rfl, fun w hSw => ?_⟩) (by assumption) ?_
          · obtain ⟨s0, s1, s2, s3⟩ := hSw
            go_simp
          change Kg.wpAnyE _ _ _ _ _ _ _ _ (Act.put _ (some 63) (.pointer (some ⟨S, q, none⟩))) _
          simp only [Act.put, List.setIfInBounds_toArray, List.set_cons_zero, List.set_cons_succ]
          refine Kg.wpAnyE_last (by kernel_rfl) (by kernel_rfl) rfl (fun K hK => ?_)
          have s3 := hHeld3.2.2.2
          clear hHeld3 hS3
          go_simp
          refine hK.out _ _ ?_
          clear hK K
          have HZ : Hid (Dw (w8.setCell ⟨S, q, none⟩ (.slice a8 ((L1 q).length + 1) c8)) B A pb m (.slice (some ⟨ob, 0, none⟩) ord.length c0) v2 ord frs S ∧ Ll (w8.setCell ⟨S, q, none⟩ (.slice a8 ((L1 q).length + 1) c8)) S S ord.length (fun j => if j = q then .slice a8 ((L1 q).length + 1) c8 else vs1 j) (fun q' => (if q' = q then L1 q ++ [k] else L1 q').map Int.ofNat) ∧ Kg.Touch [A] w (w8.setCell ⟨S, q, none⟩ (.slice a8 ((L1 q).length + 1) c8))) := by
            obtain ⟨f1, f2, -⟩ := HPN.out
            have tw : Kg.Touch (llF S ord.length vs1) wr (w8.setCell ⟨S, q, none⟩ (.slice a8 ((L1 q).length + 1) c8)) := (Kg.Touch.drew _ _).trans f2
            have hge : ∀ x, x ∈ llF S ord.length vs1 → S ≤ x := fun x hx => (Q2.out.mem x hx).1
            refine ⟨Q1.out.keep tw (fun x hx hm => ?_), ?_, Q5.out.then tw (fun x hx => .inr ?_)⟩
            · have h1 := (HR.out.mem x hx).2
              have h2 := hge x hm
              have h3 := HS.out
              omega
            · have e9 : (fun q' => (if q' = q then L1 q ++ [k] else L1 q').map Int.ofNat) = fun j => if j = q then (L1 q).map Int.ofNat ++ [(k : Int)] else (L1 j).map Int.ofNat := by
                funext y
                by_cases e : y = q
                · rw [if_pos e, if_pos e, List.map_append]
                  rfl
                · rw [if_neg e, if_neg e]
              rw [e9]
              exact f1
            · have h2 := hge x hx
              have h3 := HS.out
              omega
          have HKN : Hid (Lk W ord k (j + 1) (fun x => if x = q then L1 q ++ [k] else L1 x) (c1 + 1)) := Q3.out.put HA.out HB.out HQ.out (fun q' h => by
            have h1 := (List.getElem?_eq_some_iff.1 h)
            have h2 := (List.getElem?_eq_some_iff.1 HQ.out)
            obtain ⟨h1a, h1b⟩ := h1
            obtain ⟨h2a, h2b⟩ := h2
            have h3 := HND.out.idxOf_getElem q' h1a
            have h4 := HND.out.idxOf_getElem q h2a
            rw [h1b] at h3
            rw [h2b] at h4
            exact h3.symm.trans h4)
          have HCN : Hid (c1 + 1 ≤ ((ord.take k).map (fun a => (W a).length)).sum + (j + 1)) := by
            have h9 := Q4.out
            show _ ≤ _
            omega
          clear HPN s3 hp3 Q1 Q2 Q3 Q4 Q5 b2 hwd hown
          generalize w8.setCell ⟨S, q, none⟩ (.slice a8 ((L1 q).length + 1) c8) = w9 at *
          obtain ⟨z1, z2, z3⟩ : Hid (Dw w9 B A pb m (.slice (some ⟨ob, 0, none⟩) ord.length c0) v2 ord frs S) ∧ Hid (Ll w9 S S ord.length (fun j => if j = q then .slice a8 ((L1 q).length + 1) c8 else vs1 j) (fun q' => (if q' = q then L1 q ++ [k] else L1 q').map Int.ofNat)) ∧ Hid (Kg.Touch [A] w w9) := HZ.out
          go_wp2
          go_roundw
          case rel => exact ⟨j + 1, c1 + 1, _, _, by simp, by omega, z1, z2, HKN, HCN, z3⟩
          case measure => simp [intOf]; omega
        · have hji : ¬ (j : Int) < ((W a).length : Int) := by omega
          have e9 : j = (W a).length := by omega
          subst e9
          have HK : Hid (Lk W ord (k + 1) 0 L1 c1) := Lk.next HA.out Q3.out
          have HC : Hid (c1 ≤ ((ord.take (k + 1)).map (fun a => (W a).length)).sum) := by
            have h9 : ord.take (k + 1) = ord.take k ++ [a] := by rw [List.take_add_one, HA.out]; rfl
            have h8 := Q4.out
            show c1 ≤ _
            rw [h9, List.map_append, List.sum_append]
            simpa using h8
          clear R1 R2 R3 R4 R5 Q3 Q4 cu co
          go_wp2
          go_roundw
          case rel => exact ⟨k + 1, c1, vs1, L1, by simp, by omega, Q1, Q2, HK, HC, Q5⟩
          case measure => simp [intOf]; omega
    · have hki : ¬ (k : Int) < (ord.length : Int) := by omega
      have e9 : k = ord.length := by omega
      subst e9
      have FIN : Hid (∃ (Rb : Nat) (vs : Nat → Value) (L : Nat → List Nat), Dw wr B A pb m (.slice a0 ord.length c0) v2 ord frs Rb ∧ Ll wr w.heap.size Rb ord.length vs (fun q => (L q).map Int.ofNat) ∧ (∀ q x, x ∈ L q ↔ Ed W ord x q) ∧ (∀ q, (L q).length ≤ T) ∧ Kg.Touch [A] w wr) :=
        ⟨S, vs, L, R1.out, by rw [← HS.out]; exact R2.out, R3.out.all, fun q => Nat.le_trans (R3.out.n q) (Nat.le_trans R4.out (HTT.out _)), R5.out⟩
      clear R1 R2 R3 R4 R5
      go_wp2
      obtain ⟨Rb, vs', L', f1, f2, f3⟩ := FIN.out
      refine bodyPost_end (v := .tuple #[]) ?_ rfl ⟨rfl, Rb, f1, vs', L', f2, f3⟩
      simp [results, Tryz.results109, go_sem]
end Go.Proofs.YtkekaifiahjljaaGreatDoor
