/-
  The book's lists of numbers: its rows, what they hold.
-/
import Derived.Test.YtcijdbhabbepaaaGreatDoorKG1
import Derived.ArgAppend
set_option linter.unusedVariables false
set_option maxRecDepth 20000
namespace Go.Proofs.YtcijdbhabbepaaaGreatDoor.Kg
open Go.RowKit

theorem Tryz.infoInts : (Tryz.prog.info? 29).map (fun i => (i.zero, i.size, i.bytes)) = some (some (.slice none 0 0), 1, 24) := by kernel_rfl

/-- The type of a row's elements. -/
def ty (j : Nat) : Nat := if j ≤ 17 then 29 else 3

/-- xs, with another list at j. -/
def putl (xs : Nat → List Value) (j : Nat) (l : List Value) : Nat → List Value := fun i => if i = j then l else xs i

theorem putl_same (xs : Nat → List Value) (j : Nat) (l : List Value) : putl xs j l j = l := by simp [putl]
theorem putl_ne (xs : Nat → List Value) {j i : Nat} (l : List Value) (h : i ≠ j) : putl xs j l i = xs i := by simp [putl, h]

/-- The book's eight rows; K: the blocks that its lists lie in. -/
structure Iv (w : World) (base b : Nat) (f : Nat → Value) (xs : Nat → List Value) (K : List Nat) : Prop where
  bk : Bk w b f
  lo : base ≤ b
  own : ∀ j, 13 ≤ j → j ≤ 20 → w.ownsRow base (ty j) 1 (f j) (xs j).length (xs j)
  dis : ∀ i j k, 13 ≤ i → i ≤ 20 → 13 ≤ j → j ≤ 20 → i ≠ j → (f i).ownBlock = some k → (f j).ownBlock ≠ some k
  kp : ∀ j k, 13 ≤ j → j ≤ 20 → (f j).ownBlock = some k → k ∉ K
  kb : b ∉ K
  kin : ∀ k, k ∈ K → base ≤ k ∧ k < w.heap.size

theorem ty_book (j : Nat) : (43 : Nat) ≠ ty j := by unfold ty; split <;> decide

theorem Iv.rb {w : World} {base b : Nat} {f : Nat → Value} {xs : Nat → List Value} {K : List Nat} (h : Iv w base b f xs K) (j : Nat) (h1 : 13 ≤ j) (h2 : j ≤ 20) : some b ≠ (f j).ownBlock :=
  row_ne h.bk (h.own j h1 h2) (ty_book j)

/-- What the book's own blocks are. -/
def Own (b : Nat) (f : Nat → Value) (k : Nat) : Prop := k = b ∨ ∃ j, 13 ≤ j ∧ j ≤ 20 ∧ (f j).ownBlock = some k

theorem Iv.keep {w w' : World} {base b : Nat} {f : Nat → Value} {xs : Nat → List Value} {K G : List Nat} (h : Iv w base b f xs K) (ht : Touch G w w') (hg : ∀ k, k ∈ G → ¬ Own b f k) : Iv w' base b f xs K :=
  ⟨h.bk.touch ht (fun hm => hg b hm (.inl rfl)), h.lo, fun j h1 h2 => row_keep2 (h.own j h1 h2) ht (fun k hk hm => hg k hm (.inr ⟨j, h1, h2, hk⟩)), h.dis, h.kp, h.kb, fun k hk => ⟨(h.kin k hk).1, Nat.lt_of_lt_of_le (h.kin k hk).2 ht.size⟩⟩

theorem Iv.nil {w w' : World} {base b : Nat} {f : Nat → Value} {xs : Nat → List Value} {K : List Nat} (h : Iv w base b f xs K) (ht : Below w.heap.size w w') : Iv w' base b f xs K := h.keep (Touch.of_below ht []) (fun k hk => by cases hk)

theorem Iv.ownLt {w : World} {base b : Nat} {f : Nat → Value} {xs : Nat → List Value} {K : List Nat} (h : Iv w base b f xs K) {k : Nat} (hk : Own b f k) : base ≤ k ∧ k < w.heap.size := by
  rcases hk with rfl | ⟨j, h1, h2, h3⟩
  · exact ⟨h.lo, h.bk.lt⟩
  · exact (h.own j h1 h2).lt k h3

theorem Iv.ownK {w : World} {base b : Nat} {f : Nat → Value} {xs : Nat → List Value} {K : List Nat} (h : Iv w base b f xs K) {k : Nat} (hk : Own b f k) : k ∉ K := by
  rcases hk with rfl | ⟨j, h1, h2, h3⟩
  · exact h.kb
  · exact h.kp j k h1 h2 h3

/-- More blocks are kept. -/
theorem Iv.more {w : World} {base b : Nat} {f : Nat → Value} {xs : Nat → List Value} {K : List Nat} (h : Iv w base b f xs K) {k : Nat} (h1 : base ≤ k) (h2 : k < w.heap.size) (h3 : ¬ Own b f k) : Iv w base b f xs (k :: K) := by
  refine ⟨h.bk, h.lo, h.own, h.dis, fun j m a1 a2 a3 hm => ?_, fun hm => ?_, fun m hm => ?_⟩
  · rcases List.mem_cons.1 hm with rfl | hm
    · exact h3 (.inr ⟨j, a1, a2, a3⟩)
    · exact h.kp j m a1 a2 a3 hm
  · rcases List.mem_cons.1 hm with rfl | hm
    · exact h3 (.inl rfl)
    · exact h.kb hm
  · rcases List.mem_cons.1 hm with rfl | hm
    · exact ⟨h1, h2⟩
    · exact h.kin m hm

/-- A field that is no row. -/
theorem Iv.field {w : World} {base b : Nat} {f : Nat → Value} {xs : Nat → List Value} {K : List Nat} (h : Iv w base b f xs K) (j : Nat) (v : Value) (hj : j < 13 ∨ 20 < j) (hj2 : j < 121) : Iv (w.setCell ⟨b, j, none⟩ v) base b (put f j v) xs K := by
  have hne : ∀ i, 13 ≤ i → i ≤ 20 → put f j v i = f i := fun i h1 h2 => put_ne _ _ (by omega)
  refine ⟨h.bk.set j v hj2, h.lo, fun i h1 h2 => ?_, fun i m k a1 a2 a3 a4 => ?_, fun i k a1 a2 => ?_, h.kb, fun k hk => ?_⟩
  · rw [hne i h1 h2]; exact ownsRow_setOther (h.own i h1 h2) (h.rb i h1 h2) _
  · rw [hne i a1 a2, hne m a3 a4]; exact h.dis i m k a1 a2 a3 a4
  · rw [hne i a1 a2]; exact h.kp i k a1 a2
  · have := h.kin k hk; simpa [World.setCell] using this

/-- A row is let go. -/
theorem Iv.drop {w : World} {base b : Nat} {f : Nat → Value} {xs : Nat → List Value} {K : List Nat} (h : Iv w base b f xs K) (j : Nat) (h1 : 13 ≤ j) (h2 : j ≤ 20) : Iv (w.setCell ⟨b, j, none⟩ (.slice none 0 0)) base b (put f j (.slice none 0 0)) (putl xs j []) K := by
  refine ⟨h.bk.set j _ (by omega), h.lo, fun i a1 a2 => ?_, fun i m k a1 a2 a3 a4 a5 => ?_, fun i k a1 a2 => ?_, h.kb, fun k hk => ?_⟩
  · by_cases hi : i = j
    · subst hi; rw [put_same, putl_same]; exact World.ownsRow_nil _ _ _ _
    · rw [put_ne _ _ hi, putl_ne _ _ hi]; exact ownsRow_setOther (h.own i a1 a2) (h.rb i a1 a2) _
  · by_cases hi : i = j
    · subst hi; rw [put_same]; intro e; cases e
    · by_cases hm : m = j
      · subst hm; rw [put_same]; intro _ e; cases e
      · rw [put_ne _ _ hi, put_ne _ _ hm]; exact h.dis i m k a1 a2 a3 a4 a5
  · by_cases hi : i = j
    · subst hi; rw [put_same]; intro e; cases e
    · rw [put_ne _ _ hi]; exact h.kp i k a1 a2
  · have := h.kin k hk; simpa [World.setCell] using this

theorem rowne_bk {w : World} {b base e n : Nat} {f : Nat → Value} {v : Value} {xs : List Value} (h : Bk w b f) (hr : w.ownsRow base e 1 v n xs) (ht : (43 : Nat) ≠ e) : some b ≠ v.ownBlock := row_ne h hr ht

/-- A row that has grown by one. -/
theorem Iv.app {w w1 : World} {base b : Nat} {f : Nat → Value} {xs : Nat → List Value} {K : List Nat} (h : Iv w base b f xs K) (j : Nat) (h1 : 13 ≤ j) (h2 : j ≤ 20) (x v' : Value)
    (hown : w1.ownsRow base (ty j) 1 v' ((xs j).length + 1) (xs j ++ [x])) (ht : Touch (f j).ownBlock.toList w w1) (hat : v'.ownBlock = (f j).ownBlock ∨ ∃ q, v'.ownBlock = some q ∧ w.heap.size ≤ q) :
    Iv (w1.setCell ⟨b, j, none⟩ v') base b (put f j v') (putl xs j (xs j ++ [x])) K ∧ Touch (b :: (f j).ownBlock.toList) w (w1.setCell ⟨b, j, none⟩ v') := by
  have hbn : b ∉ (f j).ownBlock.toList := by
    intro hm
    have h9 : (f j).ownBlock = some b := by simpa using hm
    exact h.rb j h1 h2 h9.symm
  have hk1 : Bk w1 b f := h.bk.touch ht hbn
  have oth : ∀ i, 13 ≤ i → i ≤ 20 → i ≠ j → w1.ownsRow base (ty i) 1 (f i) (xs i).length (xs i) := fun i a1 a2 hi => row_keep2 (h.own i a1 a2) ht (fun k hk hm => h.dis i j k a1 a2 h1 h2 hi hk (by simpa using hm))
  refine ⟨⟨hk1.set j v' (by omega), h.lo, fun i a1 a2 => ?_, fun i m k a1 a2 a3 a4 a5 => ?_, fun i k a1 a2 => ?_, h.kb, fun k hk => ?_⟩, (ht.mono (fun k hk => .inl (by simp at hk; simp [hk]))).trans (Touch.setCell _ _ _ (by simp))⟩
  · by_cases hi : i = j
    · subst hi
      rw [put_same, putl_same, List.length_append]
      exact ownsRow_setOther hown (a := ⟨b, i, none⟩) (rowne_bk hk1 hown (ty_book i)) _
    · rw [put_ne _ _ hi, putl_ne _ _ hi]; exact ownsRow_setOther (oth i a1 a2 hi) (a := ⟨b, j, none⟩) (rowne_bk hk1 (oth i a1 a2 hi) (ty_book i)) _
  · by_cases hi : i = j
    · subst hi
      rw [put_same, put_ne _ _ (fun e => a5 e.symm)]
      intro e1 e2
      rcases hat with h3 | ⟨q, h3, h4⟩
      · exact h.dis i m k a1 a2 a3 a4 a5 (h3 ▸ e1) e2
      · have := (h.own m a3 a4).lt k e2
        rw [h3] at e1; simp at e1; omega
    · by_cases hm : m = j
      · subst hm
        rw [put_same, put_ne _ _ hi]
        intro e1 e2
        rcases hat with h3 | ⟨q, h3, h4⟩
        · exact h.dis i m k a1 a2 a3 a4 a5 e1 (h3 ▸ e2)
        · have := (h.own i a1 a2).lt k e1
          rw [h3] at e2; simp at e2; omega
      · rw [put_ne _ _ hi, put_ne _ _ hm]; exact h.dis i m k a1 a2 a3 a4 a5
  · by_cases hi : i = j
    · subst hi
      rw [put_same]
      intro e1 hm
      rcases hat with h3 | ⟨q, h3, h4⟩
      · exact h.kp i k a1 a2 (h3 ▸ e1) hm
      · have := (h.kin k hm).2
        rw [h3] at e1; simp at e1; omega
    · rw [put_ne _ _ hi]; exact h.kp i k a1 a2
  · have h5 := h.kin k hk
    have := ht.size
    exact ⟨h5.1, by simp [World.setCell]; omega⟩

/-- What may have been touched besides the book's own is new. -/
theorem Iv.appOwn {b j : Nat} {f : Nat → Value} {v' : Value} {n : Nat} (hat : v'.ownBlock = (f j).ownBlock ∨ ∃ q, v'.ownBlock = some q ∧ n ≤ q) (h1 : 13 ≤ j) (h2 : j ≤ 20) {k : Nat} (hk : Own b (put f j v') k) : Own b f k ∨ n ≤ k := by
  rcases hk with rfl | ⟨i, a1, a2, a3⟩
  · exact .inl (.inl rfl)
  · by_cases hi : i = j
    · subst hi
      rw [put_same] at a3
      rcases hat with h3 | ⟨q, h3, h4⟩
      · exact .inl (.inr ⟨i, a1, a2, h3 ▸ a3⟩)
      · rw [h3] at a3; simp at a3; subst a3; exact .inr h4
    · rw [put_ne _ _ hi] at a3
      exact .inl (.inr ⟨i, a1, a2, a3⟩)

/-- A slice that reads as a list, in a kept block (or nil). -/
def Rd (w : World) (K : List Nat) (v : Value) (l : List Value) : Prop := ∃ a cap, v = .slice a l.length cap ∧ (∀ g, v.ownBlock = some g → g ∈ K) ∧ ∀ (j : Nat) x, l[j]? = some x → ∃ g, a = some ⟨g, 0, none⟩ ∧ w.cell? ⟨g, j, none⟩ = some x

theorem Rd.of {w : World} {K : List Nat} {l : List Value} {g n cap : Nat} (hn : n = l.length) (hg : g ∈ K) (hc : ∀ (j : Nat) x, l[j]? = some x → w.cell? ⟨g, j, none⟩ = some x) : Rd w K (.slice (some ⟨g, 0, none⟩) n cap) l :=
  ⟨_, cap, by rw [hn], fun k hk => by simp [Value.ownBlock] at hk; rw [← hk]; exact hg, fun j x hj => ⟨g, rfl, hc j x hj⟩⟩

theorem Rd.none_ (w : World) (K : List Nat) : Rd w K (.slice none 0 0) [] := ⟨none, 0, rfl, fun k hk => by simp [Value.ownBlock] at hk, fun j x hj => by simp at hj⟩

theorem Rd.keep {w w' : World} {K G : List Nat} {v : Value} {l : List Value} (h : Rd w K v l) (ht : Touch G w w') (hg : ∀ k, v.ownBlock = some k → k ∉ G) : Rd w' K v l := by
  obtain ⟨a, cap, rfl, hk, hc⟩ := h
  refine ⟨a, cap, rfl, hk, fun j x hj => ?_⟩
  obtain ⟨g, rfl, h1⟩ := hc j x hj
  refine ⟨g, rfl, ?_⟩
  rw [← h1]
  simp [World.cell?, ht.block g (World.block_lt_of_cell? _ _ h1) (hg g rfl)]

theorem Rd.wide {w : World} {K K' : List Nat} {v : Value} {l : List Value} (h : Rd w K v l) (hk : ∀ k, k ∈ K → k ∈ K') : Rd w K' v l := by
  obtain ⟨a, cap, h1, h2, h3⟩ := h
  exact ⟨a, cap, h1, fun g hg => hk g (h2 g hg), h3⟩

theorem Rd.more {w : World} {K : List Nat} {v : Value} {l : List Value} (h : Rd w K v l) (k : Nat) : Rd w (k :: K) v l := h.wide (fun _ hm => List.mem_cons_of_mem _ hm)

theorem Rd.inK {w : World} {K : List Nat} {v : Value} {l : List Value} (h : Rd w K v l) : ∀ g, v.ownBlock = some g → g ∈ K := by
  obtain ⟨a, cap, h1, h2, h3⟩ := h
  exact h2

theorem Rd.off {w w' : World} {K G : List Nat} {v : Value} {l : List Value} (h : Rd w K v l) (ht : Touch G w w') (hg : ∀ k, k ∈ G → k ∉ K) : Rd w' K v l :=
  h.keep ht (fun k hk hm => hg k hm (h.inK k hk))

end Go.Proofs.YtcijdbhabbepaaaGreatDoor.Kg
