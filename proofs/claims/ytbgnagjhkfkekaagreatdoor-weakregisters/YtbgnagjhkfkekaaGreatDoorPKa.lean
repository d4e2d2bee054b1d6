import Derived.Test.YtbgnagjhkfkekaaGreatDoorKG1
import Derived.ArgAppend
import Derived.Test.YtbgnagjhkfkekaaGreatDoorKG2
import Derived.Test.YtbgnagjhkfkekaaGreatDoorPKm
import Derived.Deep.RegionLaw
import Derived.Deep.Upon
/-
  The book's lists of numbers: its rows, what they hold.
-/
set_option linter.unusedVariables false
set_option maxRecDepth 20000
namespace Go.Proofs.YtbgnagjhkfkekaaGreatDoor.Kg
open Go.RowKit

theorem Tryz.infoInts : (Tryz.prog.info? 27).map (fun i => (i.zero, i.size, i.bytes)) = some (some (.slice none 0 0), 1, 24) := by kernel_rfl

/-- The type of a row's elements. -/
def ty (j : Nat) : Nat := if j ≤ 17 then 27 else 3

/-- xs, with another list at j. -/
def putl (xs : Nat → List Value) (j : Nat) (l : List Value) : Nat → List Value := fun i => if i = j then l else xs i

theorem putl_same (xs : Nat → List Value) (j : Nat) (l : List Value) : putl xs j l j = l := by simp [putl]
theorem putl_ne (xs : Nat → List Value) {j i : Nat} (l : List Value) (h : i ≠ j) : putl xs j l i = xs i := by simp [putl, h]

/-- The book's eight rows; K: the blocks that its lists lie in. -/
structure Iv (w : World) (base b : Nat) (f : Nat → Value) (xs : Nat → List Value) (K : List Nat) : Prop where
  bk : Bk w b f
  lo : base ≤ b
  own : ∀ j, 13 ≤ j → j ≤ 20 → w.ownsRow base (ty j) 1 (f j) (xs j).length (xs j)
  dis : ∀ i j k, 13 ≤ i → i ≤ 20 → 13 ≤ j → j ≤ 20 → i ≠ j → (f i).ownBlock = some k → (f j).ownBlock ≠ some k
  kp : ∀ j k, 13 ≤ j → j ≤ 20 → (f j).ownBlock = some k → k ∉ K
  kb : b ∉ K
  kin : ∀ k, k ∈ K → base ≤ k ∧ k < w.heap.size

theorem ty_book (j : Nat) : (53 : Nat) ≠ ty j := by unfold ty; split <;> decide

theorem Iv.rb {w : World} {base b : Nat} {f : Nat → Value} {xs : Nat → List Value} {K : List Nat} (h : Iv w base b f xs K) (j : Nat) (h1 : 13 ≤ j) (h2 : j ≤ 20) : some b ≠ (f j).ownBlock :=
  row_ne h.bk (h.own j h1 h2) (ty_book j)

/-- What the book's own blocks are. -/
def Own (b : Nat) (f : Nat → Value) (k : Nat) : Prop := k = b ∨ ∃ j, 13 ≤ j ∧ j ≤ 20 ∧ (f j).ownBlock = some k

theorem Iv.keep {w w' : World} {base b : Nat} {f : Nat → Value} {xs : Nat → List Value} {K G : List Nat} (h : Iv w base b f xs K) (ht : Touch G w w') (hg : ∀ k, k ∈ G → ¬ Own b f k) : Iv w' base b f xs K :=
  ⟨h.bk.touch ht (fun hm => hg b hm (.inl rfl)), h.lo, fun j h1 h2 => row_keep2 (h.own j h1 h2) ht (fun k hk hm => hg k hm (.inr ⟨j, h1, h2, hk⟩)), h.dis, h.kp, h.kb, fun k hk => ⟨(h.kin k hk).1, Nat.lt_of_lt_of_le (h.kin k hk).2 ht.size⟩⟩

theorem Iv.nil {w w' : World} {base b : Nat} {f : Nat → Value} {xs : Nat → List Value} {K : List Nat} (h : Iv w base b f xs K) (ht : Below w.heap.size w w') : Iv w' base b f xs K := h.keep (Touch.of_below ht []) (fun k hk => by cases hk)

theorem Iv.ownLt {w : World} {base b : Nat} {f : Nat → Value} {xs : Nat → List Value} {K : List Nat} (h : Iv w base b f xs K) {k : Nat} (hk : Own b f k) : base ≤ k ∧ k < w.heap.size := by
  rcases hk with rfl | ⟨j, h1, h2, h3⟩
  · exact ⟨h.lo, h.bk.lt⟩
  · exact (h.own j h1 h2).lt k h3

theorem Iv.ownK {w : World} {base b : Nat} {f : Nat → Value} {xs : Nat → List Value} {K : List Nat} (h : Iv w base b f xs K) {k : Nat} (hk : Own b f k) : k ∉ K := by
  rcases hk with rfl | ⟨j, h1, h2, h3⟩
  · exact h.kb
  · exact h.kp j k h1 h2 h3

/-- More blocks are kept. -/
theorem Iv.more {w : World} {base b : Nat} {f : Nat → Value} {xs : Nat → List Value} {K : List Nat} (h : Iv w base b f xs K) {k : Nat} (h1 : base ≤ k) (h2 : k < w.heap.size) (h3 : ¬ Own b f k) : Iv w base b f xs (k :: K) := by
  refine ⟨h.bk, h.lo, h.own, h.dis, fun j m a1 a2 a3 hm => ?_, fun hm => ?_, fun m hm => ?_⟩
  · rcases List.mem_cons.1 hm with rfl | hm
    · exact h3 (.inr ⟨j, a1, a2, a3⟩)
    · exact h.kp j m a1 a2 a3 hm
  · rcases List.mem_cons.1 hm with rfl | hm
    · exact h3 (.inl rfl)
    · exact h.kb hm
  · rcases List.mem_cons.1 hm with rfl | hm
    · exact ⟨h1, h2⟩
    · exact h.kin m hm

/-- A field that is no row. -/
theorem Iv.field {w : World} {base b : Nat} {f : Nat → Value} {xs : Nat → List Value} {K : List Nat} (h : Iv w base b f xs K) (j : Nat) (v : Value) (hj : j < 13 ∨ 20 < j) (hj2 : j < 121) : Iv (w.setCell ⟨b, j, none⟩ v) base b (put f j v) xs K := by
  have hne : ∀ i, 13 ≤ i → i ≤ 20 → put f j v i = f i := fun i h1 h2 => put_ne _ _ (by omega)
  refine ⟨h.bk.set j v hj2, h.lo, fun i h1 h2 => ?_, fun i m k a1 a2 a3 a4 => ?_, fun i k a1 a2 => ?_, h.kb, fun k hk => ?_⟩
  · rw [hne i h1 h2]; exact ownsRow_setOther (h.own i h1 h2) (h.rb i h1 h2) _
  · rw [hne i a1 a2, hne m a3 a4]; exact h.dis i m k a1 a2 a3 a4
  · rw [hne i a1 a2]; exact h.kp i k a1 a2
  · have := h.kin k hk; simpa [World.setCell] using this

/-- A row is let go. -/
theorem Iv.drop {w : World} {base b : Nat} {f : Nat → Value} {xs : Nat → List Value} {K : List Nat} (h : Iv w base b f xs K) (j : Nat) (h1 : 13 ≤ j) (h2 : j ≤ 20) : Iv (w.setCell ⟨b, j, none⟩ (.slice none 0 0)) base b (put f j (.slice none 0 0)) (putl xs j []) K := by
  refine ⟨h.bk.set j _ (by omega), h.lo, fun i a1 a2 => ?_, fun i m k a1 a2 a3 a4 a5 => ?_, fun i k a1 a2 => ?_, h.kb, fun k hk => ?_⟩
  · by_cases hi : i = j
    · subst hi; rw [put_same, putl_same]; exact World.ownsRow_nil _ _ _ _
    · rw [put_ne _ _ hi, putl_ne _ _ hi]; exact ownsRow_setOther (h.own i a1 a2) (h.rb i a1 a2) _
  · by_cases hi : i = j
    · subst hi; rw [put_same]; intro e; cases e
    · by_cases hm : m = j
      · subst hm; rw [put_same]; intro _ e; cases e
      · rw [put_ne _ _ hi, put_ne _ _ hm]; exact h.dis i m k a1 a2 a3 a4 a5
  · by_cases hi : i = j
    · subst hi; rw [put_same]; intro e; cases e
    · rw [put_ne _ _ hi]; exact h.kp i k a1 a2
  · have := h.kin k hk; simpa [World.setCell] using this

theorem rowne_bk {w : World} {b base e n : Nat} {f : Nat → Value} {v : Value} {xs : List Value} (h : Bk w b f) (hr : w.ownsRow base e 1 v n xs) (ht : (53 : Nat) ≠ e) : some b ≠ v.ownBlock := row_ne h hr ht

/-- A row that has grown by one. -/
theorem Iv.app {w w1 : World} {base b : Nat} {f : Nat → Value} {xs : Nat → List Value} {K : List Nat} (h : Iv w base b f xs K) (j : Nat) (h1 : 13 ≤ j) (h2 : j ≤ 20) (x v' : Value)
    (hown : w1.ownsRow base (ty j) 1 v' ((xs j).length + 1) (xs j ++ [x])) (ht : Touch (f j).ownBlock.toList w w1) (hat : v'.ownBlock = (f j).ownBlock ∨ ∃ q, v'.ownBlock = some q ∧ w.heap.size ≤ q) :
    Iv (w1.setCell ⟨b, j, none⟩ v') base b (put f j v') (putl xs j (xs j ++ [x])) K ∧ Touch (b :: (f j).ownBlock.toList) w (w1.setCell ⟨b, j, none⟩ v') := by
  have hbn : b ∉ (f j).ownBlock.toList := by
    intro hm
    have h9 : (f j).ownBlock = some b := by simpa using hm
    exact h.rb j h1 h2 h9.symm
  have hk1 : Bk w1 b f := h.bk.touch ht hbn
  have oth : ∀ i, 13 ≤ i → i ≤ 20 → i ≠ j → w1.ownsRow base (ty i) 1 (f i) (xs i).length (xs i) := fun i a1 a2 hi => row_keep2 (h.own i a1 a2) ht (fun k hk hm => h.dis i j k a1 a2 h1 h2 hi hk (by simpa using hm))
  refine ⟨⟨hk1.set j v' (by omega), h.lo, fun i a1 a2 => ?_, fun i m k a1 a2 a3 a4 a5 => ?_, fun i k a1 a2 => ?_, h.kb, fun k hk => ?_⟩, (ht.mono (fun k hk => .inl (by simp at hk; simp [hk]))).trans (Touch.setCell _ _ _ (by simp))⟩
  · by_cases hi : i = j
    · subst hi
      rw [put_same, putl_same, List.length_append]
      exact ownsRow_setOther hown (a := ⟨b, i, none⟩) (rowne_bk hk1 hown (ty_book i)) _
    · rw [put_ne _ _ hi, putl_ne _ _ hi]; exact ownsRow_setOther (oth i a1 a2 hi) (a := ⟨b, j, none⟩) (rowne_bk hk1 (oth i a1 a2 hi) (ty_book i)) _
  · by_cases hi : i = j
    · subst hi
      rw [put_same, put_ne _ _ (fun e => a5 e.symm)]
      intro e1 e2
      rcases hat with h3 | ⟨q, h3, h4⟩
      · exact h.dis i m k a1 a2 a3 a4 a5 (h3 ▸ e1) e2
      · have := (h.own m a3 a4).lt k e2
        rw [h3] at e1; simp at e1; omega
    · by_cases hm : m = j
      · subst hm
        rw [put_same, put_ne _ _ hi]
        intro e1 e2
        rcases hat with h3 | ⟨q, h3, h4⟩
        · exact h.dis i m k a1 a2 a3 a4 a5 e1 (h3 ▸ e2)
        · have := (h.own i a1 a2).lt k e1
          rw [h3] at e2; simp at e2; omega
      · rw [put_ne _ _ hi, put_ne _ _ hm]; exact h.dis i m k a1 a2 a3 a4 a5
  · by_cases hi : i = j
    · subst hi
      rw [put_same]
      intro e1 hm
      rcases hat with h3 | ⟨q, h3, h4⟩
      · exact h.kp i k a1 a2 (h3 ▸ e1) hm
      · have := (h.kin k hm).2
        rw [h3] at e1; simp at e1; omega
    · rw [put_ne _ _ hi]; exact h.kp i k a1 a2
  · have h5 := h.kin k hk
    have := ht.size
    exact ⟨h5.1, by simp [World.setCell]; omega⟩

/-- What may have been touched besides the book's own is new. -/
theorem Iv.appOwn {b j : Nat} {f : Nat → Value} {v' : Value} {n : Nat} (hat : v'.ownBlock = (f j).ownBlock ∨ ∃ q, v'.ownBlock = some q ∧ n ≤ q) (h1 : 13 ≤ j) (h2 : j ≤ 20) {k : Nat} (hk : Own b (put f j v') k) : Own b f k ∨ n ≤ k := by
  rcases hk with rfl | ⟨i, a1, a2, a3⟩
  · exact .inl (.inl rfl)
  · by_cases hi : i = j
    · subst hi
      rw [put_same] at a3
      rcases hat with h3 | ⟨q, h3, h4⟩
      · exact .inl (.inr ⟨i, a1, a2, h3 ▸ a3⟩)
      · rw [h3] at a3; simp at a3; subst a3; exact .inr h4
    · rw [put_ne _ _ hi] at a3
      exact .inl (.inr ⟨i, a1, a2, a3⟩)

/-- A slice that reads as a list, in a kept block (or nil). -/
def Rd (w : World) (K : List Nat) (v : Value) (l : List Value) : Prop := ∃ a cap, v = .slice a l.length cap ∧ (∀ g, v.ownBlock = some g → g ∈ K) ∧ ∀ (j : Nat) x, l[j]? = some x → ∃ g, a = some ⟨g, 0, none⟩ ∧ w.cell? ⟨g, j, none⟩ = some x

theorem Rd.of {w : World} {K : List Nat} {l : List Value} {g n cap : Nat} (hn : n = l.length) (hg : g ∈ K) (hc : ∀ (j : Nat) x, l[j]? = some x → w.cell? ⟨g, j, none⟩ = some x) : Rd w K (.slice (some ⟨g, 0, none⟩) n cap) l :=
  ⟨_, cap, by rw [hn], fun k hk => by simp [Value.ownBlock] at hk; rw [← hk]; exact hg, fun j x hj => ⟨g, rfl, hc j x hj⟩⟩

theorem Rd.none_ (w : World) (K : List Nat) : Rd w K (.slice none 0 0) [] := ⟨none, 0, rfl, fun k hk => by simp [Value.ownBlock] at hk, fun j x hj => by simp at hj⟩

theorem Rd.keep {w w' : World} {K G : List Nat} {v : Value} {l : List Value} (h : Rd w K v l) (ht : Touch G w w') (hg : ∀ k, v.ownBlock = some k → k ∉ G) : Rd w' K v l := by
  obtain ⟨a, cap, rfl, hk, hc⟩ := h
  refine ⟨a, cap, rfl, hk, fun j x hj => ?_⟩
  obtain ⟨g, rfl, h1⟩ := hc j x hj
  refine ⟨g, rfl, ?_⟩
  rw [← h1]
  simp [World.cell?, ht.block g (World.block_lt_of_cell? _ _ h1) (hg g rfl)]

theorem Rd.wide {w : World} {K K' : List Nat} {v : Value} {l : List Value} (h : Rd w K v l) (hk : ∀ k, k ∈ K → k ∈ K') : Rd w K' v l := by
  obtain ⟨a, cap, h1, h2, h3⟩ := h
  exact ⟨a, cap, h1, fun g hg => hk g (h2 g hg), h3⟩

theorem Rd.more {w : World} {K : List Nat} {v : Value} {l : List Value} (h : Rd w K v l) (k : Nat) : Rd w (k :: K) v l := h.wide (fun _ hm => List.mem_cons_of_mem _ hm)

theorem Rd.inK {w : World} {K : List Nat} {v : Value} {l : List Value} (h : Rd w K v l) : ∀ g, v.ownBlock = some g → g ∈ K := by
  obtain ⟨a, cap, h1, h2, h3⟩ := h
  exact h2

theorem Rd.off {w w' : World} {K G : List Nat} {v : Value} {l : List Value} (h : Rd w K v l) (ht : Touch G w w') (hg : ∀ k, k ∈ G → k ∉ K) : Rd w' K v l :=
  h.keep ht (fun k hk hm => hg k hm (h.inK k hk))

end Go.Proofs.YtbgnagjhkfkekaaGreatDoor.Kg

/-
  sameInts, due, holdInts, Hold.
-/
set_option linter.unusedVariables false
set_option maxRecDepth 20000
namespace Go.Proofs.YtbgnagjhkfkekaaGreatDoor.Kg
open Go.RowKit

set_option maxHeartbeats 2000000 in
theorem ksame_any (K : List Nat) (v u : Value) (l : List Int) (w : World) (hl : l.length < 100000000000000) (h1 : Rd w K v (ints l)) (h2 : Rd w K u (ints l)) :
    Calls Tryz.prog 74 #[v, u] w fun e w' => e = .returned (.bool true) ∧ w = w' := by
  obtain ⟨a, cap, rfl, -, hc1⟩ := h1
  obtain ⟨a', cap', rfl, -, hc2⟩ := h2
  have H1 : Hid (∀ (j : Nat) x, l[j]? = some x → ∃ b, a = some ⟨b, 0, none⟩ ∧ w.cell? ⟨b, j, none⟩ = some (.int .i64 x)) := fun j x hj => hc1 j _ (by simp [ints, hj])
  have H2 : Hid (∀ (j : Nat) x, l[j]? = some x → ∃ b, a' = some ⟨b, 0, none⟩ ∧ w.cell? ⟨b, j, none⟩ = some (.int .i64 x)) := fun j x hj => hc2 j _ (by simp [ints, hj])
  clear hc1 hc2
  rw [show (ints l).length = l.length by simp [ints]]
  go_enter Tryz.func74, Tryz.ntmps74
  go_wp2
  go_loopw [5] (fun i wr => ∃ k : Nat, k ≤ l.length ∧ i = .int .i64 k ∧ wr = w) (fun i _ => l.length - (intOf i).toNat)
  case atStart => exact ⟨0, Nat.zero_le _, rfl, rfl⟩
  case round =>
    obtain ⟨k, hk, rfl, rfl⟩ := hrel
    by_cases hlt : k < l.length
    · obtain ⟨x, hx⟩ : ∃ x, l[k]? = some x := ⟨_, List.getElem?_eq_getElem hlt⟩
      obtain ⟨b, rfl, c1⟩ := H1.out k x hx
      obtain ⟨b', rfl, c2⟩ := H2.out k x hx
      have hki : (k : Int) < l.length := by omega
      clear hx
      go_wp2
      go_roundw
      case rel => exact ⟨k + 1, hlt, by go_num, trivial⟩
      case measure => simp [intOf]; omega
    · obtain rfl : k = l.length := by omega
      go_wp2
      go_ret
      exact ⟨rfl, rfl⟩

set_option maxHeartbeats 2000000 in
theorem due_any {w : World} {b : Nat} {f : Nat → Value} (h : Bk w b f) (turn : Int) (n : Nat) (h0 : f 0 = .bool false) (h2 : f 2 = .int .i64 turn) (ht0 : 0 ≤ turn) (ht : turn < 4000000000) (hn : n < 4000000000) :
    Calls Tryz.prog 36 #[.pointer (some ⟨b, 0, none⟩), .int .i64 n] w fun e w' => (∃ d, e = .returned (.int .i64 d)) ∧ w = w' := by
  have c0 := h.cell 0
  have c2 := h.cell 2
  rw [h0] at c0
  rw [h2] at c2
  clear h h0 h2
  by_cases m0 : n % 3 = 0
  · have m1 : (n : Int) % 3 = 0 := by omega
    go_enter Tryz.func36, Tryz.ntmps36
    go_wp2
    go_ret
    exact ⟨⟨_, rfl⟩, rfl⟩
  · have m1 : ((n : Int) % 3 == 0) = false := by simp; omega
    by_cases m2 : n % 3 = 1
    · have m3 : (n : Int) % 3 = 1 := by omega
      go_enter Tryz.func36, Tryz.ntmps36
      go_wp2
      go_ret
      exact ⟨⟨_, rfl⟩, rfl⟩
    · have m3 : ((n : Int) % 3 == 1) = false := by simp; omega
      go_enter Tryz.func36, Tryz.ntmps36
      go_wp2
      go_ret
      exact ⟨⟨_, rfl⟩, rfl⟩

/-- Two rows of slices that read alike, one by one. -/
structure Prs (w : World) (K : List Nat) (A B : List Value) : Prop where
  len : A.length = B.length
  at_ : ∀ (i : Nat) v, A[i]? = some v → ∃ u l, B[i]? = some u ∧ Rd w K v (ints l) ∧ Rd w K u (ints l) ∧ l.length ≤ 11000000000000

theorem Prs.off {w w' : World} {K G : List Nat} {A B : List Value} (h : Prs w K A B) (ht : Touch G w w') (hg : ∀ k, k ∈ G → k ∉ K) : Prs w' K A B :=
  ⟨h.len, fun i v hv => by
    obtain ⟨u, l, h1, h2, h3, h4⟩ := h.at_ i v hv
    exact ⟨u, l, h1, h2.off ht hg, h3.off ht hg, h4⟩⟩

theorem Prs.more {w : World} {K : List Nat} {A B : List Value} (h : Prs w K A B) (k : Nat) : Prs w (k :: K) A B :=
  ⟨h.len, fun i v hv => by
    obtain ⟨u, l, h1, h2, h3, h4⟩ := h.at_ i v hv
    exact ⟨u, l, h1, h2.more k, h3.more k, h4⟩⟩

theorem Prs.snoc {w : World} {K : List Nat} {A B : List Value} (h : Prs w K A B) (v u : Value) (l : List Int) (h1 : Rd w K v (ints l)) (h2 : Rd w K u (ints l)) (h3 : l.length ≤ 11000000000000) : Prs w K (A ++ [v]) (B ++ [u]) := by
  refine ⟨by simp [h.len], fun i x hx => ?_⟩
  by_cases hi : i < A.length
  · rw [List.getElem?_append_left hi] at hx
    obtain ⟨y, m, q1, q2, q3, q4⟩ := h.at_ i x hx
    exact ⟨y, m, by rw [List.getElem?_append_left (by have := h.len; omega)]; exact q1, q2, q3, q4⟩
  · have hl := (List.getElem?_eq_some_iff.1 hx).1
    simp at hl
    obtain rfl : i = A.length := by omega
    rw [List.getElem?_append_right (Nat.le_refl _)] at hx
    simp at hx
    subst hx
    exact ⟨u, l, by rw [h.len, List.getElem?_append_right (Nat.le_refl _)]; simp, h1, h2, h3⟩

theorem Prs.nil (w : World) (K : List Nat) : Prs w K [] [] := ⟨rfl, fun i v hv => by simp at hv⟩

/-- A row's element. -/
theorem row_val {w : World} {base n e : Nat} {v : Value} {xs : List Value} (h : w.ownsRow base e 1 v n xs) (j : Nat) (x : Value) (hj : xs[j]? = some x) : ∃ g cap, v = .slice (some ⟨g, 0, none⟩) n cap ∧ w.cell? ⟨g, j, none⟩ = some x := by
  have hjl := (List.getElem?_eq_some_iff.1 hj).1
  have hl : xs.length = n := by simpa using h.1
  rcases h.2 with ⟨rfl, h0⟩ | ⟨g, cap, cur, rfl, _⟩
  · omega
  · refine ⟨g, cap, rfl, ?_⟩
    rw [h.cellAt _ (by omega)]; exact hj

theorem row_sl {w : World} {base n e : Nat} {v : Value} {xs : List Value} (h : w.ownsRow base e 1 v n xs) : ∃ a cap, v = .slice a n cap := by
  rcases h.2 with ⟨rfl, rfl⟩ | ⟨g, cap, cur, rfl, _⟩
  · exact ⟨_, _, rfl⟩
  · exact ⟨_, _, rfl⟩

end Go.Proofs.YtbgnagjhkfkekaaGreatDoor.Kg

/-
  holdInts.
-/
set_option linter.unusedVariables false
set_option maxRecDepth 20000
namespace Go.Proofs.YtbgnagjhkfkekaaGreatDoor.Kg
open Go.RowKit

theorem below_drew {n : Nat} {w w' : World} (h : Below n w w') : Below n w w'.drew := h.trans ⟨rfl, rfl, rfl, Nat.le_refl _, fun _ _ => rfl⟩

set_option maxHeartbeats 8000000 in
theorem holdInts_any {w : World} {base b : Nat} {f : Nat → Value} {xs : Nat → List Value} {K : List Nat} (h : Iv w base b f xs K) (h1 : Prs w K (xs 13) (xs 14)) (h2 : Prs w K (xs 15) (xs 16)) (n1 : (xs 13).length < 4000000000) (n2 : (xs 15).length < 4000000000) :
    Calls Tryz.prog 39 #[.pointer (some ⟨b, 0, none⟩)] w fun e w' => e = .returned (.bool true) ∧ Below w.heap.size w w' := by
  have HV : Hid (Iv w base b f xs K) := h
  have HP1 : Hid (Prs w K (xs 13) (xs 14)) := h1
  have HP2 : Hid (Prs w K (xs 15) (xs 16)) := h2
  obtain ⟨a13, p13, e13⟩ := row_sl (h.own 13 (by decide) (by decide))
  obtain ⟨a14, p14, e14⟩ := row_sl (h.own 14 (by decide) (by decide))
  obtain ⟨a15, p15, e15⟩ := row_sl (h.own 15 (by decide) (by decide))
  obtain ⟨a16, p16, e16⟩ := row_sl (h.own 16 (by decide) (by decide))
  have E13 : Hid (f 13 = .slice a13 (xs 13).length p13) := e13
  have E14 : Hid (f 14 = .slice a14 (xs 14).length p14) := e14
  have E15 : Hid (f 15 = .slice a15 (xs 15).length p15) := e15
  have E16 : Hid (f 16 = .slice a16 (xs 16).length p16) := e16
  clear h h1 h2 e13 e14 e15 e16
  go_enter Tryz.func39, Tryz.ntmps39
  go_wp2
  go_loopw [3] (fun i wr => ∃ k : Nat, k ≤ (xs 13).length ∧ i = .int .i64 k ∧ Below w.heap.size w wr) (fun i _ => (xs 13).length - (intOf i).toNat)
  case atStart => exact ⟨0, Nat.zero_le _, rfl, Below.refl _ _⟩
  case round =>
    obtain ⟨k, hk, rfl, hbel⟩ := hrel
    have HB : Hid (Below w.heap.size w wr) := hbel
    have hV := HV.out.nil hbel
    have c13 := hV.bk.cell 13
    have c14 := hV.bk.cell 14
    rw [E13.out] at c13
    rw [E14.out] at c14
    by_cases hlt : k < (xs 13).length
    · obtain ⟨v, hv⟩ : ∃ v, (xs 13)[k]? = some v := ⟨_, List.getElem?_eq_getElem hlt⟩
      obtain ⟨u, l, hu, q1, q2, q3⟩ := HP1.out.at_ k v hv
      obtain ⟨g, cap, e1, c1⟩ := row_val (hV.own 13 (by decide) (by decide)) k v hv
      obtain ⟨g2, cap2, e2, c2⟩ := row_val (hV.own 14 (by decide) (by decide)) k u hu
      rw [E13.out] at e1
      rw [E14.out] at e2
      simp only [Value.slice.injEq, true_and] at e1 e2
      obtain ⟨rfl, rfl⟩ := e1
      obtain ⟨rfl, rfl⟩ := e2
      have hlen : k < (xs 14).length := by have := HP1.out.len; omega
      have hki : (k : Int) < (xs 13).length := by omega
      have hki2 : (k : Int) < (xs 14).length := by omega
      have hsm := ksame_any K v u l wr.drew (by omega) (q1.off (Touch.of_below (below_drew hbel) []) (fun k hk => by cases hk)) (q2.off (Touch.of_below (below_drew hbel) []) (fun k hk => by cases hk))
      clear hV q1 q2 q3 hu hv hbel
      go_upto_region 4 with fail
      refine quiet_call 14 mixed (by kernel_rfl) ?_
      simp only [List.take_succ_cons, List.take_zero, List.drop_succ_cons, List.drop_zero]
      repeat (go_big_quiet_step (fail))
      refine wpQuiet_nil ?_
      go_wp2_with fail
      refine hsm.mono ?_
      rintro e w1 ⟨rfl, rfl⟩
      clear hsm c13 c14 c1 c2
      go_wp2_with fail
      refine thenQuiet_mk ?_
      repeat (go_big_quiet_step (fail))
      refine wpQuiet_nil ?_
      go_wp2
      go_roundw
      case rel => exact ⟨k + 1, hlt, by go_num, below_drew HB.out⟩
      case measure => simp [intOf]; omega
    · obtain rfl : k = (xs 13).length := by omega
      clear hV hbel hlt
      go_wp2
      clear c13 c14
      go_loopw [4] (fun i wr2 => ∃ k : Nat, k ≤ (xs 15).length ∧ i = .int .i64 k ∧ Below w.heap.size w wr2) (fun i _ => (xs 15).length - (intOf i).toNat)
      case atStart => exact ⟨0, Nat.zero_le _, rfl, HB.out⟩
      case round =>
        obtain ⟨k, hk, rfl, hbel⟩ := hrel
        clear HB
        have HB : Hid (Below w.heap.size w wr) := hbel
        have hV := HV.out.nil hbel
        have c13 := hV.bk.cell 15
        have c14 := hV.bk.cell 16
        rw [E15.out] at c13
        rw [E16.out] at c14
        by_cases hlt : k < (xs 15).length
        · obtain ⟨v, hv⟩ : ∃ v, (xs 15)[k]? = some v := ⟨_, List.getElem?_eq_getElem hlt⟩
          obtain ⟨u, l, hu, q1, q2, q3⟩ := HP2.out.at_ k v hv
          obtain ⟨g, cap, e1, c1⟩ := row_val (hV.own 15 (by decide) (by decide)) k v hv
          obtain ⟨g2, cap2, e2, c2⟩ := row_val (hV.own 16 (by decide) (by decide)) k u hu
          rw [E15.out] at e1
          rw [E16.out] at e2
          simp only [Value.slice.injEq, true_and] at e1 e2
          obtain ⟨rfl, rfl⟩ := e1
          obtain ⟨rfl, rfl⟩ := e2
          have hlen : k < (xs 16).length := by have := HP2.out.len; omega
          have hki : (k : Int) < (xs 15).length := by omega
          have hki2 : (k : Int) < (xs 16).length := by omega
          have hsm := ksame_any K v u l wr.drew (by omega) (q1.off (Touch.of_below (below_drew hbel) []) (fun k hk => by cases hk)) (q2.off (Touch.of_below (below_drew hbel) []) (fun k hk => by cases hk))
          clear hV q1 q2 q3 hu hv hbel
          go_upto_region 9 with fail
          refine quiet_call 14 mixed (by kernel_rfl) ?_
          simp only [List.take_succ_cons, List.take_zero, List.drop_succ_cons, List.drop_zero]
          repeat (go_big_quiet_step (fail))
          refine wpQuiet_nil ?_
          go_wp2_with fail
          refine hsm.mono ?_
          rintro e w1 ⟨rfl, rfl⟩
          clear hsm c13 c14 c1 c2
          go_wp2_with fail
          refine thenQuiet_mk ?_
          repeat (go_big_quiet_step (fail))
          refine wpQuiet_nil ?_
          go_wp2
          go_roundw
          case rel => exact ⟨k + 1, hlt, by go_num, below_drew HB.out⟩
          case measure => simp [intOf]; omega
        · obtain rfl : k = (xs 15).length := by omega
          clear hV hbel hlt
          go_wp2
          go_ret
          exact ⟨rfl, HB.out⟩

end Go.Proofs.YtbgnagjhkfkekaaGreatDoor.Kg

/-
  What a call does to the book; growInts.
-/
set_option linter.unusedVariables false
set_option maxRecDepth 20000
namespace Go.Proofs.YtbgnagjhkfkekaaGreatDoor.Kg
open Go.RowKit

/-- From w to w' only the book's own blocks were touched; what it owns and keeps besides is new. -/
structure Ex (w w' : World) (b : Nat) (f f' : Nat → Value) (K K' : List Nat) : Prop where
  t : ∃ G, Touch G w w' ∧ ∀ k, k ∈ G → Own b f k
  o : ∀ k, Own b f' k → Own b f k ∨ w.heap.size ≤ k
  k : ∀ k, k ∈ K → k ∈ K'
  n : ∀ k, k ∈ K' → k ∈ K ∨ w.heap.size ≤ k

theorem Ex.refl (w : World) (b : Nat) (f : Nat → Value) (K : List Nat) : Ex w w b f f K K := ⟨⟨[], Touch.refl _ _, fun k hk => by cases hk⟩, fun k h => .inl h, fun k h => h, fun k h => .inl h⟩

theorem Ex.trans {w w1 w2 : World} {b : Nat} {f f1 f2 : Nat → Value} {K K1 K2 : List Nat} (h : Ex w w1 b f f1 K K1) (g : Ex w1 w2 b f1 f2 K1 K2) : Ex w w2 b f f2 K K2 := by
  obtain ⟨G, h1, h2⟩ := h.t
  obtain ⟨G2, g1, g2⟩ := g.t
  refine ⟨⟨G ++ G2.filter (fun x => decide (x < w.heap.size)), ?_, fun k hk => ?_⟩, fun k hk => ?_, fun k hk => g.k k (h.k k hk), fun k hk => ?_⟩
  · refine (h1.mono (fun k hk => .inl (by simp [hk]))).then g1 (fun x hx => ?_)
    by_cases hlt : x < w.heap.size
    · exact .inl (by simp [hx, hlt])
    · exact .inr (by omega)
  · rcases List.mem_append.1 hk with hk | hk
    · exact h2 k hk
    · simp only [List.mem_filter, decide_eq_true_eq] at hk
      rcases h.o k (g2 k hk.1) with h3 | h3
      · exact h3
      · omega
  · rcases g.o k hk with h3 | h3
    · exact h.o k h3
    · exact .inr (Nat.le_trans h1.size h3)
  · rcases g.n k hk with h3 | h3
    · exact h.n k h3
    · exact .inr (Nat.le_trans h1.size h3)

theorem Ex.rd {w w' : World} {base b : Nat} {f f' : Nat → Value} {xs : Nat → List Value} {K K' : List Nat} (h : Ex w w' b f f' K K') (hi : Iv w base b f xs K) {v : Value} {l : List Value} (hr : Rd w K v l) : Rd w' K' v l := by
  obtain ⟨G, h1, h2⟩ := h.t
  exact (hr.off h1 (fun k hk hm => hi.ownK (h2 k hk) hm)).wide h.k

theorem Ex.prs {w w' : World} {base b : Nat} {f f' : Nat → Value} {xs : Nat → List Value} {K K' : List Nat} (h : Ex w w' b f f' K K') (hi : Iv w base b f xs K) {A B : List Value} (hp : Prs w K A B) : Prs w' K' A B :=
  ⟨hp.len, fun i v hv => by
    obtain ⟨u, l, h1, h2, h3, h4⟩ := hp.at_ i v hv
    exact ⟨u, l, h1, h.rd hi h2, h.rd hi h3, h4⟩⟩

/-- A step that only lays blocks. -/
theorem Ex.below {w w' : World} {b : Nat} {f : Nat → Value} {K : List Nat} (h : Below w.heap.size w w') : Ex w w' b f f K K :=
  ⟨⟨[], Touch.of_below h [], fun k hk => by cases hk⟩, fun k h => .inl h, fun k h => h, fun k h => .inl h⟩

theorem Ex.keepMore {w : World} {b : Nat} {f : Nat → Value} {K : List Nat} {w0 : World} (k : Nat) (h : w0.heap.size ≤ k) (hs : Ex w0 w b f f K K) : Ex w0 w b f f K (k :: K) :=
  ⟨hs.t, hs.o, fun j hj => by simp [hj], fun j hj => by
    rcases List.mem_cons.1 hj with rfl | hj
    · exact .inr h
    · exact .inl hj⟩

theorem Iv.appEx {w w1 : World} {base b : Nat} {f : Nat → Value} {xs : Nat → List Value} {K : List Nat} (h : Iv w base b f xs K) (j : Nat) (h1 : 13 ≤ j) (h2 : j ≤ 20) (x v' : Value)
    (hown : w1.ownsRow base (ty j) 1 v' ((xs j).length + 1) (xs j ++ [x])) (ht : Touch (f j).ownBlock.toList w w1) (hat : v'.ownBlock = (f j).ownBlock ∨ ∃ q, v'.ownBlock = some q ∧ w.heap.size ≤ q) :
    Iv (w1.setCell ⟨b, j, none⟩ v') base b (put f j v') (putl xs j (xs j ++ [x])) K ∧ Ex w (w1.setCell ⟨b, j, none⟩ v') b f (put f j v') K K := by
  obtain ⟨q1, q2⟩ := h.app j h1 h2 x v' hown ht hat
  refine ⟨q1, ⟨⟨_, q2, fun k hk => ?_⟩, fun k hk => Iv.appOwn hat h1 h2 hk, fun k hk => hk, fun k hk => .inl hk⟩⟩
  rcases List.mem_cons.1 hk with rfl | hk
  · exact .inl rfl
  · exact .inr ⟨j, h1, h2, by simpa using hk⟩

theorem Iv.fieldEx {w : World} {base b : Nat} {f : Nat → Value} {xs : Nat → List Value} {K : List Nat} (h : Iv w base b f xs K) (j : Nat) (v : Value) (hj : j < 13 ∨ 20 < j) : Ex w (w.setCell ⟨b, j, none⟩ v) b f (put f j v) K K := by
  refine ⟨⟨[b], Touch.setCell _ _ _ (by simp), fun k hk => .inl (by simpa using hk)⟩, fun k hk => ?_, fun k hk => hk, fun k hk => .inl hk⟩
  rcases hk with rfl | ⟨i, a1, a2, a3⟩
  · exact .inl (.inl rfl)
  · rw [put_ne _ _ (by omega)] at a3
    exact .inl (.inr ⟨i, a1, a2, a3⟩)

theorem Iv.dropEx {w : World} {base b : Nat} {f : Nat → Value} {xs : Nat → List Value} {K : List Nat} (h : Iv w base b f xs K) (j : Nat) : Ex w (w.setCell ⟨b, j, none⟩ (.slice none 0 0)) b f (put f j (.slice none 0 0)) K K := by
  refine ⟨⟨[b], Touch.setCell _ _ _ (by simp), fun k hk => .inl (by simpa using hk)⟩, fun k hk => ?_, fun k hk => hk, fun k hk => .inl hk⟩
  rcases hk with rfl | ⟨i, a1, a2, a3⟩
  · exact .inl (.inl rfl)
  · by_cases hi : i = j
    · subst hi; rw [put_same] at a3; cases a3
    · rw [put_ne _ _ hi] at a3
      exact .inl (.inr ⟨i, a1, a2, a3⟩)

theorem grow_bk {w w3 : World} {b : Nat} {f : Nat → Value} {o : Obj} {r : Option Nat} (hg : (w.alloc o).grownBy w3 r) (h : Bk w b f) (hn : some b ≠ r) : Bk w3 b f := by
  have := hg.block b (by have := h.lt; simp; omega) hn
  exact this.trans ((Below.heap_alloc _ _ b h.lt).trans h)

/-- The walk at an append that takes its turn in a region that draws. -/
theorem step_append_own_at {P : Program} {ops : Array Oper} {o : Oper} {a : Act} {w : World} {K : Act → World → Prop} {Q : Exit → Act → World → Prop} {E : Prop} (hgd : o.guard = none) (s x : Operand) (t : TypeId)
    (ho : o.op = .call { callee := .builtin .append, args := #[s, x], argTypes := #[t, t] })
    (base : Nat) (e : TypeId) (i : TypeInfo) (z : Value) (size bytes : Nat) (ht : P.underlying t = some (.slice e)) (hi : P.info? e = some i) (hz : i.zero = some z)
    (hsize : i.size = size) (hby : i.bytes = bytes) (hzs : z.cells.size = size) (hsz : 0 < size)
    (v : Value) (n : Nat) (xs : List Value) (hs : a.eval s = v) (hown : w.ownsRow base e size v n xs)
    (ad : Addr) (m c : Nat) (news : List Value) (hx : a.eval x = .slice (some ad) m c) (hl : news.length = m * size) (hnews : ∀ j u, news[j]? = some u → w.cell? (ad.add j) = some u) (h1 : ∀ u ∈ news, u.oneCell' = true)
    (h63 : n + m ≤ maxLen) (hbytes : (n + m) * bytes ≤ 140737488355328) (hbase : base ≤ w.heap.size)
    (h : ∀ v' w', w'.ownsRow base e size v' (n + m) (xs ++ news) → w.grownBy w' v.ownBlock → (v'.ownBlock = v.ownBlock ∨ v'.ownBlock = some w.heap.size) → K (a.put o.dst v') w') :
    if Region.wanted o (yielded ops a.tmps) = true then Oper.wp P o a w K Q else E := by
  have hw : Region.wanted o (yielded ops a.tmps) = true := by simp [Region.wanted, hgd]
  rw [if_pos hw]
  obtain ⟨v', w', hr, h2, h3, h4, h5⟩ := run_append_own_at (P := P) w base t o.type e i z size bytes ht hi hz hsize hby hzs hsz v n xs hown ad m c news hl hnews h1 h63 hbytes hbase
  unfold Oper.wp
  simp [execOp, ho, resolve, invoke, builtin, hs, hx, hr, Result.andThen]
  exact h v' w' h2 h3 h5

/-- The facts on the two types, for append. -/
structure Inf (i0 i1 : TypeInfo) : Prop where
  a0 : Tryz.prog.info? 3 = some i0
  a1 : i0.zero = some (.int .i64 0)
  a2 : i0.size = 1
  a3 : i0.bytes = 8
  b0 : Tryz.prog.info? 27 = some i1
  b1 : i1.zero = some (.slice none 0 0)
  b2 : i1.size = 1
  b3 : i1.bytes = 24

theorem inf_ex : ∃ i0 i1, Inf i0 i1 := by
  obtain ⟨i0, h0, h1, h2, h3⟩ := info_parts Tryz.infoInt
  obtain ⟨i1, g0, g1, g2, g3⟩ := info_parts Tryz.infoInts
  exact ⟨i0, i1, h0, h1, h2, h3, g0, g1, g2, g3⟩

end Go.Proofs.YtbgnagjhkfkekaaGreatDoor.Kg

/-
  Append to a row of one's own: what was there can be read as before, too.
-/
set_option linter.unusedVariables false
set_option maxRecDepth 20000
namespace Go.Proofs.YtbgnagjhkfkekaaGreatDoor.Kg
open Go.RowKit

theorem setCells_row (g e n : Nat) : ∀ (vs : List Value) (o : Nat) (w : World) (cur : Array Value), w.heap[g]? = some (.cells cur e (0, 0)) → n ≤ o → ∃ cur', (w.setCells g o vs).heap[g]? = some (.cells cur' e (0, 0)) ∧ cur'.size = cur.size ∧ cur'.toList.take n = cur.toList.take n
  | [], o, w, cur, h, _ => ⟨cur, h, rfl, rfl⟩
  | v :: vs, o, w, cur, h, ho => by
    obtain ⟨c2, h1, h2, h3⟩ := setCells_row g e n vs (o + 1) _ _ (heap_set h o v) (by omega)
    refine ⟨c2, h1, by rw [h2]; simp, ?_⟩
    rw [h3, Array.toList_setIfInBounds, List.take_set_of_le ho]

/-- Append to a row of one's own. -/
theorem run_append_row {P : Program} (w : World) (base : Nat) (t ty e : TypeId) (i : TypeInfo) (z : Value) (bytes : Nat) (ht : P.underlying t = some (.slice e)) (hi : P.info? e = some i) (hz : i.zero = some z)
    (hsize : i.size = 1) (hby : i.bytes = bytes) (hzs : z.cells.size = 1)
    (v : Value) (n : Nat) (xs : List Value) (hown : w.ownsRow base e 1 v n xs)
    (ax : Option Addr) (c : Nat) (news : List Value) (hnews : ∀ (j : Nat) u, news[j]? = some u → ∃ ad, ax = some ad ∧ w.cell? (ad.add j) = some u) (h1 : ∀ u ∈ news, u.oneCell' = true)
    (h63 : n + news.length ≤ maxLen) (hbytes : (n + news.length) * bytes ≤ 140737488355328) (hbase : base ≤ w.heap.size) :
    ∃ v' w', (Builtin.append_ #[t, t] ty #[v, .slice ax news.length c]).run P w = .ok v' w' ∧ w'.ownsRow base e 1 v' (n + news.length) (xs ++ news) ∧ w.grownBy w' v.ownBlock ∧
      (v' = .slice none 0 0 → v = .slice none 0 0) ∧ (v'.ownBlock = v.ownBlock ∨ v'.ownBlock = some w.heap.size) ∧ w'.ownsRow base e 1 v n xs := by
  cases ax with
  | none =>
    have hx0 : news = [] := by
      cases news with
      | nil => rfl
      | cons y ys => obtain ⟨ad, e, -⟩ := hnews 0 y rfl; cases e
    subst hx0
    obtain ⟨a0, cp, rfl, hle⟩ : ∃ a0 cp, v = .slice a0 n cp ∧ n ≤ cp := by
      rcases hown.2 with ⟨rfl, rfl⟩ | ⟨g, cap, cur, rfl, _, _, hle, _⟩
      · exact ⟨_, _, rfl, Nat.le_refl _⟩
      · exact ⟨_, _, rfl, hle⟩
    have hr := run_append_nothing (P := P) w t t ty e i ht hi a0 n cp hle (.slice none 0 c) (Src.ofNil w ht c)
    exact ⟨_, _, hr, by simpa using hown, ⟨rfl, rfl, rfl, Nat.le_refl _, fun _ _ _ => rfl⟩, fun h => h, .inl rfl, hown⟩
  | some ad =>
    have hnw : ∀ j u, news[j]? = some u → w.cell? (ad.add j) = some u := fun j u hj => by
      obtain ⟨ad', e, h⟩ := hnews j u hj
      cases e; exact h
    obtain ⟨v', w', hr, h2, h3, h4, h5⟩ := run_append_own_at (P := P) w base t ty e i z 1 bytes ht hi hz hsize hby hzs (by decide) v n xs hown ad news.length c news (by simp) hnw h1 h63 hbytes hbase
    refine ⟨v', w', hr, h2, h3, fun h => (h4.1 h).1, h5, ?_⟩
    refine ⟨hown.1, ?_⟩
    rcases hown.2 with ⟨rfl, rfl⟩ | ⟨g, cap, cur, rfl, hbg, hg, hnc, hcm, hcs, htake⟩
    · exact .inl ⟨rfl, rfl⟩
    · by_cases hroom : n + news.length ≤ cap
      · have hr2 := run_append_room_cells (P := P) w t ty e i ht hi g 0 n cap ad news.length c news (by rw [hsize]; simp) hnw h1 hroom (fun j hj => by
          rw [heap_cell hg, hsize]
          have : j + n < cur.size := by omega
          rw [Array.getElem?_eq_getElem (by omega)]; rfl) (fun j hj => heap_frozen hg _)
        rw [hr] at hr2
        simp only [Result.ok.injEq] at hr2
        obtain ⟨rfl, rfl⟩ := hr2
        obtain ⟨c2, q1, q2, q3⟩ := setCells_row g e (n * 1) news (0 + n * i.size) w cur hg (by rw [hsize]; omega)
        exact .inr ⟨g, cap, c2, rfl, hbg, q1, hnc, hcm, by rw [q2]; exact hcs, by rw [q3]; exact htake⟩
      · have holds : ∀ j u, xs[j]? = some u → w.cell? ((⟨g, 0, none⟩ : Addr).add j) = some u := hown.cells (g := g) rfl
        obtain ⟨v2, w2, hr2, q1, q2⟩ := run_append_arg_grows (P := P) w t ty e i z 1 bytes ht hi hz hsize hby hzs (by decide) ⟨g, 0, none⟩ n cap xs hown.1 holds ad news.length c news (by simp) hnw (by omega) h63 hbytes
        rw [hr] at hr2
        simp only [Result.ok.injEq] at hr2
        obtain ⟨rfl, rfl⟩ := hr2
        exact .inr ⟨g, cap, cur, rfl, hbg, by rw [q2.block g (heap_lt hg) (by simp)]; exact hg, hnc, hcm, hcs, htake⟩

theorem wpList_append_row {P : Program} {w : World} {ops : Array Oper} {rest : List Oper} {o : Oper} {a : Act} {Q : Exit → Act → World → Prop} (hgd : o.guard = none) (s x : Operand) (t : TypeId)
    (ho : o.op = .call { callee := .builtin .append, args := #[s, x], argTypes := #[t, t] })
    (base : Nat) (e : TypeId) (i : TypeInfo) (z : Value) (bytes : Nat) (ht : P.underlying t = some (.slice e)) (hi : P.info? e = some i) (hz : i.zero = some z)
    (hsize : i.size = 1) (hby : i.bytes = bytes) (hzs : z.cells.size = 1)
    (v : Value) (n : Nat) (xs : List Value) (hs : a.eval s = v) (hown : w.ownsRow base e 1 v n xs)
    (ax : Option Addr) (m c : Nat) (news : List Value) (hm : m = news.length) (hx : a.eval x = .slice ax m c) (hnews : ∀ (j : Nat) u, news[j]? = some u → ∃ ad, ax = some ad ∧ w.cell? (ad.add j) = some u) (h1 : ∀ u ∈ news, u.oneCell' = true)
    (h63 : n + m ≤ maxLen) (hbytes : (n + m) * bytes ≤ 140737488355328) (hbase : base ≤ w.heap.size)
    (h : ∀ v' w', w'.ownsRow base e 1 v' (n + m) (xs ++ news) → w.grownBy w' v.ownBlock → (v' = .slice none 0 0 → v = .slice none 0 0) → (v'.ownBlock = v.ownBlock ∨ v'.ownBlock = some w.heap.size) → w'.ownsRow base e 1 v n xs → wpList P ops Q rest (a.put o.dst v') w') :
    wpList P ops Q (o :: rest) a w := by
  subst hm
  refine wpList_plain hgd fun K hK => ?_
  obtain ⟨v', w', hr, h2, h3, h4, h5, h6⟩ := run_append_row (P := P) w base t o.type e i z bytes ht hi hz hsize hby hzs v n xs hown ax c news hnews h1 h63 hbytes hbase
  unfold Oper.wp execOp
  simp only [ho, resolve, invoke, builtin, Sem.run_bind, Sem.run_pure, Result.andThen_ok, List.map_toArray, List.map_cons, List.map_nil, hs, hx, hr]
  exact hK _ _ (h v' w' h2 h3 h4 h5 h6)

theorem step_append_row {P : Program} {ops : Array Oper} {o : Oper} {a : Act} {w : World} {K : Act → World → Prop} {Q : Exit → Act → World → Prop} {E : Prop} (hgd : o.guard = none) (s x : Operand) (t : TypeId)
    (ho : o.op = .call { callee := .builtin .append, args := #[s, x], argTypes := #[t, t] })
    (base : Nat) (e : TypeId) (i : TypeInfo) (z : Value) (bytes : Nat) (ht : P.underlying t = some (.slice e)) (hi : P.info? e = some i) (hz : i.zero = some z)
    (hsize : i.size = 1) (hby : i.bytes = bytes) (hzs : z.cells.size = 1)
    (v : Value) (n : Nat) (xs : List Value) (hs : a.eval s = v) (hown : w.ownsRow base e 1 v n xs)
    (ax : Option Addr) (m c : Nat) (news : List Value) (hm : m = news.length) (hx : a.eval x = .slice ax m c) (hnews : ∀ (j : Nat) u, news[j]? = some u → ∃ ad, ax = some ad ∧ w.cell? (ad.add j) = some u) (h1 : ∀ u ∈ news, u.oneCell' = true)
    (h63 : n + m ≤ maxLen) (hbytes : (n + m) * bytes ≤ 140737488355328) (hbase : base ≤ w.heap.size)
    (h : ∀ v' w', w'.ownsRow base e 1 v' (n + m) (xs ++ news) → w.grownBy w' v.ownBlock → (v' = .slice none 0 0 → v = .slice none 0 0) → (v'.ownBlock = v.ownBlock ∨ v'.ownBlock = some w.heap.size) → K (a.put o.dst v') w') :
    if Region.wanted o (yielded ops a.tmps) = true then Oper.wp P o a w K Q else E := by
  subst hm
  have hw : Region.wanted o (yielded ops a.tmps) = true := by simp [Region.wanted, hgd]
  rw [if_pos hw]
  obtain ⟨v', w', hr, h2, h3, h4, h5, h6⟩ := run_append_row (P := P) w base t o.type e i z bytes ht hi hz hsize hby hzs v n xs hown ax c news hnews h1 h63 hbytes hbase
  unfold Oper.wp
  simp [execOp, ho, resolve, invoke, builtin, hs, hx, hr, Result.andThen]
  exact h v' w' h2 h3 h4 h5

theorem ownsRow_some {w : World} {base n e s : Nat} {v : Value} {xs : List Value} (h : w.ownsRow base e s v n xs) (hn : 0 < n) : ∃ g cap, v = .slice (some ⟨g, 0, none⟩) n cap := by
  rcases h.2 with ⟨_, h0⟩ | ⟨g, cap, cur, rfl, _⟩
  · omega
  · exact ⟨g, cap, rfl⟩

theorem ownsRow_there {w : World} {base n e s : Nat} {v : Value} {xs : List Value} (h : w.ownsRow base e s v n xs) (hn : v ≠ .slice none 0 0) : ∃ g cap, v = .slice (some ⟨g, 0, none⟩) n cap := by
  rcases h.2 with ⟨h0, _⟩ | ⟨g, cap, cur, rfl, _⟩
  · exact absurd h0 hn
  · exact ⟨g, cap, rfl⟩

/-- A row's head, in a block that has grown. -/
theorem row_head {w w1 : World} {base base' e n N : Nat} {v u : Value} {xs ys : List Value} (h1 : w.ownsRow base e 1 v n xs) (h2 : w.ownsRow base' e 1 u N (xs ++ ys)) (he : u.ownBlock = v.ownBlock) (h3 : w1.ownsRow base' e 1 u N (xs ++ ys)) : w1.ownsRow base e 1 v n xs := by
  refine ⟨h1.1, ?_⟩
  rcases h1.2 with ⟨rfl, rfl⟩ | ⟨g, cap, cur, rfl, hbg, hg, hnc, hcm, hcs, htake⟩
  · exact .inl ⟨rfl, rfl⟩
  · rcases h2.2 with ⟨rfl, rfl⟩ | ⟨g2, cap2, cur2, rfl, hbg2, hg2, hnc2, hcm2, hcs2, htake2⟩
    · simp [Value.ownBlock] at he
    · simp only [Value.ownBlock, Option.some.injEq] at he
      subst he
      rcases h3.2 with ⟨h, _⟩ | ⟨g3, cap3, cur3, e3, hbg3, hg3, hnc3, hcm3, hcs3, htake3⟩
      · cases h
      · simp only [Value.slice.injEq, Option.some.injEq, Addr.mk.injEq, true_and, and_true] at e3
        obtain ⟨rfl, rfl⟩ := e3
        rw [hg] at hg2
        simp only [Option.some.injEq, Obj.cells.injEq] at hg2
        obtain ⟨rfl, _⟩ := hg2
        have hcap : cap = cap2 := by omega
        subst hcap
        have hx : xs.length = n := by simpa using h1.1
        have hN : (xs ++ ys).length = N := by simpa using h2.1
        rw [List.length_append] at hN
        refine .inr ⟨g2, cap, cur3, rfl, hbg, hg3, hnc, hcm, hcs3, ?_⟩
        have : cur3.toList.take (n * 1) = (cur3.toList.take (N * 1)).take (n * 1) := by rw [List.take_take]; congr 1; omega
        rw [this, htake3, Nat.mul_one, ← hx]
        simp

/-- A row's element is written. -/
theorem row_set {w : World} {base e n g cap : Nat} {xs : List Value} (h : w.ownsRow base e 1 (.slice (some ⟨g, 0, none⟩) n cap) n xs) (j : Nat) (x : Value) : (w.setCell ⟨g, j, none⟩ x).ownsRow base e 1 (.slice (some ⟨g, 0, none⟩) n cap) n (xs.set j x) := by
  refine ⟨by simpa using h.1, ?_⟩
  rcases h.2 with ⟨h, _⟩ | ⟨g2, cap2, cur, e2, hbg, hg, hnc, hcm, hcs, htake⟩
  · cases h
  · simp only [Value.slice.injEq, Option.some.injEq, Addr.mk.injEq, true_and, and_true] at e2
    obtain ⟨rfl, rfl⟩ := e2
    refine .inr ⟨g, cap, _, rfl, hbg, heap_set hg j x, hnc, hcm, by simpa using hcs, ?_⟩
    rw [Array.toList_setIfInBounds, List.take_set, htake]

/-- A row reads as its list. -/
theorem Rd.row {w : World} {base e n : Nat} {K : List Nat} {v : Value} {l : List Value} (h : w.ownsRow base e 1 v n l) (hk : ∀ g, v.ownBlock = some g → g ∈ K) : Rd w K v l := by
  have hl : l.length = n := by simpa using h.1
  obtain ⟨a, cap, rfl⟩ := row_sl h
  refine ⟨a, cap, by rw [hl], hk, fun j x hj => ?_⟩
  obtain ⟨g, cap2, e, hc⟩ := row_val h j x hj
  simp only [Value.slice.injEq, true_and] at e
  exact ⟨g, e.1, hc⟩

/-- What reads twice reads alike. -/
theorem Rd.uniq {w : World} {K K' : List Nat} {v : Value} {l l' : List Value} (h : Rd w K v l) (h' : Rd w K' v l') : l = l' := by
  obtain ⟨a, cap, rfl, -, hc⟩ := h
  obtain ⟨a', cap', e, -, hc'⟩ := h'
  simp only [Value.slice.injEq] at e
  obtain ⟨rfl, hl, -⟩ := e
  refine List.ext_getElem? fun j => ?_
  by_cases hj : j < l.length
  · obtain ⟨x, hx⟩ : ∃ x, l[j]? = some x := ⟨_, List.getElem?_eq_getElem hj⟩
    obtain ⟨y, hy⟩ : ∃ y, l'[j]? = some y := ⟨_, List.getElem?_eq_getElem (by omega)⟩
    obtain ⟨g, e1, c1⟩ := hc j x hx
    obtain ⟨g', e2, c2⟩ := hc' j y hy
    rw [e1] at e2
    simp at e2
    subst e2
    rw [c1] at c2
    rw [hx, hy, c2]
  · rw [List.getElem?_eq_none (by omega), List.getElem?_eq_none (by omega)]

end Go.Proofs.YtbgnagjhkfkekaaGreatDoor.Kg

/-
  growInts.
-/
set_option linter.unusedVariables false
set_option maxRecDepth 20000
namespace Go.Proofs.YtbgnagjhkfkekaaGreatDoor.Kg
open Go.RowKit

/-- What is laid on behind a list: i numbers. -/
def lay (m : Int) (i : Nat) : List Int := (List.range i).map fun (j : Nat) => m + 6 + 5 * (j : Int)

theorem lay_succ (m : Int) (i : Nat) : lay m (i + 1) = lay m i ++ [m + 6 + 5 * (i : Int)] := by simp [lay, List.range_succ]

@[simp] theorem lay_length (m : Int) (i : Nat) : (lay m i).length = i := by simp [lay]

@[simp] theorem lay_zero (m : Int) : lay m 0 = [] := by simp [lay]

/-- Two slices that share no block. -/
def Far (v u : Value) : Prop := ∀ g, v.ownBlock = some g → u.ownBlock ≠ some g

theorem Far.symm {v u : Value} (h : Far v u) : Far u v := fun g h1 h2 => h g h2 h1

/-- A row of numbers of one's own, with room behind it or nil. -/
abbrev Row (w : World) (base : Nat) (v : Value) (l : List Int) : Prop := w.ownsRow base 3 1 v l.length (ints l)

/-- The lists that were written full and not laid on yet, from k on. -/
structure Frs (w : World) (base : Nat) (K : List Nat) (k : Nat) (A : List Value) (ms : List Int) : Prop where
  len : A.length = ms.length
  at_ : ∀ (i : Nat) v, k ≤ i → A[i]? = some v → ∃ l m, ms[i]? = some m ∧ 0 ≤ m ∧ m ≤ 1000000000000000 ∧ Row w base v l ∧ (∀ g, v.ownBlock = some g → g ∈ K) ∧ l.length ≤ 10000000000000

theorem Frs.keep {w w' : World} {base k : Nat} {K K' G : List Nat} {A : List Value} {ms : List Int} (h : Frs w base K k A ms) (ht : Touch G w w') (hK : ∀ q, q ∈ K → q ∈ K') (hG : ∀ (i : Nat) v, k ≤ i → A[i]? = some v → ∀ g, v.ownBlock = some g → g ∉ G) : Frs w' base K' k A ms :=
  ⟨h.len, fun i v hi hv => by
    obtain ⟨l, m, h1, h2, h3, h4, h5, h6⟩ := h.at_ i v hi hv
    exact ⟨l, m, h1, h2, h3, row_keep2 h4 ht (hG i v hi hv), fun g hg => hK g (h5 g hg), h6⟩⟩

theorem Frs.next {w : World} {base k : Nat} {K : List Nat} {A : List Value} {ms : List Int} (h : Frs w base K k A ms) : Frs w base K (k + 1) A ms :=
  ⟨h.len, fun i v hi hv => h.at_ i v (by omega) hv⟩

theorem Ex.frs {w w' : World} {base b : Nat} {f f' : Nat → Value} {xs : Nat → List Value} {K K' : List Nat} (h : Ex w w' b f f' K K') (hi : Iv w base b f xs K) {A : List Value} {ms : List Int} {bs k : Nat} (hp : Frs w bs K k A ms) : Frs w' bs K' k A ms := by
  obtain ⟨G, h1, h2⟩ := h.t
  refine hp.keep h1 h.k (fun i v hk hv g hg hm => ?_)
  obtain ⟨l, m, _, _, _, _, q, _⟩ := hp.at_ i v hk hv
  exact hi.ownK (h2 g hm) (q g hg)

theorem ints_one (l : List Int) : ∀ u ∈ ints l, u.oneCell' = true := by
  intro u hu
  obtain ⟨x, _, rfl⟩ := List.mem_map.1 hu
  rfl

/-- From w to w' only the book's own blocks and those of X were touched. -/
structure Ez (w w' : World) (b : Nat) (f f' : Nat → Value) (K K' : List Nat) (X : List Value) : Prop where
  t : ∃ G, Touch G w w' ∧ ∀ k, k ∈ G → Own b f k ∨ ∃ x, x ∈ X ∧ x.ownBlock = some k
  o : ∀ k, Own b f' k → Own b f k ∨ w.heap.size ≤ k
  k : ∀ k, k ∈ K → k ∈ K'
  n : ∀ k, k ∈ K' → k ∈ K ∨ w.heap.size ≤ k

theorem Ex.ez {w w' : World} {b : Nat} {f f' : Nat → Value} {K K' : List Nat} (h : Ex w w' b f f' K K') (X : List Value) : Ez w w' b f f' K K' X := by
  obtain ⟨G, h1, h2⟩ := h.t
  exact ⟨⟨G, h1, fun k hk => .inl (h2 k hk)⟩, h.o, h.k, h.n⟩

theorem Ez.trans {w w1 w2 : World} {b : Nat} {f f1 f2 : Nat → Value} {K K1 K2 : List Nat} {X : List Value} (h : Ez w w1 b f f1 K K1 X) (g : Ez w1 w2 b f1 f2 K1 K2 X) : Ez w w2 b f f2 K K2 X := by
  obtain ⟨G, h1, h2⟩ := h.t
  obtain ⟨G2, g1, g2⟩ := g.t
  refine ⟨⟨G ++ G2.filter (fun x => decide (x < w.heap.size)), ?_, fun k hk => ?_⟩, fun k hk => ?_, fun k hk => g.k k (h.k k hk), fun k hk => ?_⟩
  · refine (h1.mono (fun k hk => .inl (by simp [hk]))).then g1 (fun x hx => ?_)
    by_cases hlt : x < w.heap.size
    · exact .inl (by simp [hx, hlt])
    · exact .inr (by omega)
  · rcases List.mem_append.1 hk with hk | hk
    · exact h2 k hk
    · simp only [List.mem_filter, decide_eq_true_eq] at hk
      rcases g2 k hk.1 with h3 | h3
      · rcases h.o k h3 with h4 | h4
        · exact .inl h4
        · omega
      · exact .inr h3
  · rcases g.o k hk with h3 | h3
    · exact h.o k h3
    · exact .inr (Nat.le_trans h1.size h3)
  · rcases g.n k hk with h3 | h3
    · exact h.n k h3
    · exact .inr (Nat.le_trans h1.size h3)

theorem Ez.size {w w' : World} {b : Nat} {f f' : Nat → Value} {K K' : List Nat} {X : List Value} (h : Ez w w' b f f' K K' X) : w.heap.size ≤ w'.heap.size := by
  obtain ⟨G, q1, _⟩ := h.t; exact q1.size

/-- A list that is laid on: v as it was, gl behind q numbers. -/
structure Gi (W w : World) (base : Nat) (v : Value) (l : List Int) (gl : Value) (q : Nat) (m : Int) : Prop where
  row : w.ownsRow base 3 1 gl (l.length + q) (ints (l ++ lay m q))
  vr : Row w base v l
  t : Touch v.ownBlock.toList W w
  at_ : gl.ownBlock = v.ownBlock ∨ ∃ g, gl.ownBlock = some g ∧ W.heap.size ≤ g

theorem Gi.start {W : World} {base : Nat} {v : Value} {l : List Int} (h : Row W base v l) (m : Int) : Gi W W base v l v 0 m :=
  ⟨by simpa using h, h, Touch.refl _ _, .inl rfl⟩

theorem Gi.step {W w w1 : World} {base q : Nat} {v gl gl' : Value} {l : List Int} {m : Int} {o : Obj} (h : Gi W w base v l gl q m) (hv : ∀ g, v.ownBlock = some g → g < W.heap.size)
    (ho : w1.ownsRow base 3 1 gl' (l.length + q + 1) (ints (l ++ lay m q) ++ [.int .i64 (m + 6 + 5 * (q : Int))])) (hg : (w.alloc o).grownBy w1 gl.ownBlock) (hat : gl'.ownBlock = gl.ownBlock ∨ gl'.ownBlock = some (w.alloc o).heap.size)
    (hold : w1.ownsRow base 3 1 gl (l.length + q) (ints (l ++ lay m q))) : Gi W w1 base v l gl' (q + 1) m := by
  have ht : Touch gl.ownBlock.toList w w1 := (Touch.alloc _ _ _).trans (Touch.grown hg (fun k hk => by simp [hk]))
  refine ⟨?_, ?_, h.t.then ht (fun x hx => ?_), ?_⟩
  · rw [lay_succ, ← List.append_assoc]; simpa [ints, Nat.add_assoc] using ho
  · rcases h.at_ with e | ⟨g, e, hge⟩
    · exact row_head (ys := ints (lay m q)) h.vr (by simpa [ints] using h.row) e (by simpa [ints] using hold)
    · exact row_keep2 h.vr ht (fun k hk hm => by have := hv k hk; simp [e] at hm; omega)
  · rcases h.at_ with e | ⟨g, e, hge⟩
    · exact .inl (by rw [← e]; exact hx)
    · simp [e] at hx; exact .inr (by omega)
  · rcases hat with e | e
    · rw [e]; exact h.at_
    · exact .inr ⟨_, e, by have := h.t.size; simp; omega⟩

theorem Rd.grow {w w' : World} {base : Nat} {K : List Nat} {v x : Value} {l : List Int} {y : List Value} (h : Rd w K x y) (ht : Touch v.ownBlock.toList w w') (hr : Row w base v l) (hr' : Row w' base v l) (hx : Far v x ∨ x = v) : Rd w' K x y := by
  rcases hx with hx | rfl
  · exact h.keep ht (fun k hk hm => hx k (by simpa using hm) hk)
  · have e : y = ints l := h.uniq (Rd.row (K := K) hr h.inK)
    rw [e]
    exact Rd.row hr' h.inK

theorem Prs.grow {w w' : World} {base : Nat} {K : List Nat} {A B : List Value} {v : Value} {l : List Int} (h : Prs w K A B) (ht : Touch v.ownBlock.toList w w') (hr : Row w base v l) (hr' : Row w' base v l) (hx : ∀ x, x ∈ A ++ B → Far v x ∨ x = v) : Prs w' K A B :=
  ⟨h.len, fun i x hi => by
    obtain ⟨u, y, h1, h2, h3, h4⟩ := h.at_ i x hi
    exact ⟨u, y, h1, h2.grow ht hr hr' (hx x (List.mem_append_left _ (List.mem_of_getElem? hi))), h3.grow ht hr hr' (hx u (List.mem_append_right _ (List.mem_of_getElem? h1))), h4⟩⟩

/-- A copy that was laid, and its slice that was appended. -/
theorem copy_ex {W w1 w2 : World} {base b : Nat} {f : Nat → Value} {xs : Nat → List Value} {K : List Nat} (h : Iv W base b f xs K) (j : Nat) (h1 : 13 ≤ j) (h2 : j ≤ 17) {v v' : Value} {ug n uc : Nat} {l : List Int} (ej : f j = v) (ht : Touch [] W w1)
    (hu : w1.ownsRow W.heap.size 3 1 (.slice (some ⟨ug, 0, none⟩) n uc) n (ints l)) (ho : w2.ownsRow base 27 1 v' ((xs j).length + 1) (xs j ++ [.slice (some ⟨ug, 0, none⟩) n uc]))
    (hg : (w1.alloc (.cells #[.slice (some ⟨ug, 0, none⟩) n uc] 27)).grownBy w2 v.ownBlock) (hat : v'.ownBlock = v.ownBlock ∨ v'.ownBlock = some (w1.alloc (.cells #[.slice (some ⟨ug, 0, none⟩) n uc] 27)).heap.size) :
    Iv (w2.setCell ⟨b, j, none⟩ v') base b (put f j v') (putl xs j (xs j ++ [.slice (some ⟨ug, 0, none⟩) n uc])) (ug :: K) ∧ Ex W (w2.setCell ⟨b, j, none⟩ v') b f (put f j v') K (ug :: K) ∧ Rd (w2.setCell ⟨b, j, none⟩ v') (ug :: K) (.slice (some ⟨ug, 0, none⟩) n uc) (ints l) := by
  subst ej
  have hul := hu.lt ug rfl
  have hb1 : Below W.heap.size W w1 := ht.below (Nat.le_refl _) (fun k hk => by cases hk)
  have hbb : base ≤ W.heap.size := by have := h.lo; have := h.bk.lt; omega
  have hV1 : Iv w1 base b f xs (ug :: K) := (h.nil hb1).more (by omega) hul.2 (fun ho => by have := (h.ownLt ho).2; omega)
  have hE1 : Ex W w1 b f f K (ug :: K) := Ex.keepMore ug hul.1 (Ex.below hb1)
  obtain ⟨q1, q2⟩ := hV1.appEx j h1 (by omega) _ v' (by rw [show ty j = 27 by unfold ty; rw [if_pos h2]]; exact ho) ((Touch.alloc _ _ _).trans (Touch.grown hg (fun k hk => by simp [hk]))) (by
    rcases hat with e | e
    · exact .inl e
    · exact .inr ⟨_, e, by simp⟩)
  have hr1 : Rd w1 (ug :: K) (.slice (some ⟨ug, 0, none⟩) n uc) (ints l) := Rd.row hu (fun g hg => by simp [Value.ownBlock] at hg; simp [hg])
  exact ⟨q1, hE1.trans q2, q2.rd hV1 hr1⟩

end Go.Proofs.YtbgnagjhkfkekaaGreatDoor.Kg

