import Derived.Test.YtlkengnefhhppaaGreatDoorPKa
import Derived.ArgAppend
import Derived.Test.YtlkengnefhhppaaGreatDoorUKG2
import Derived.Deep.RegionLaw
import Derived.StillTailTactics
import Derived.BigQuiet
import Derived.StillTail
set_option linter.unusedVariables false
set_option maxHeartbeats 8000000
set_option maxRecDepth 20000
namespace Go.Proofs.YtlkengnefhhppaaGreatDoor.Kg
open Go.RowKit
theorem Tryz.infoInts : (Tryz.prog.info? 32).map (fun i => (i.zero, i.size, i.bytes)) = some (some (.slice none 0 0), 1, 24) := by kernel_rfl
def ty (j : Nat) : Nat := if j ≤ 17 then 32 else 3
def putl (xs : Nat → List Value) (j : Nat) (l : List Value) : Nat → List Value := fun i => if i = j then l else xs i
theorem putl_same (xs : Nat → List Value) (j : Nat) (l : List Value) : putl xs j l j = l := by simp [putl]
theorem putl_ne (xs : Nat → List Value) {j i : Nat} (l : List Value) (h : i ≠ j) : putl xs j l i = xs i := by simp [putl, h]
structure Iv (w : World) (base b : Nat) (f : Nat → Value) (xs : Nat → List Value) (K : List Nat) : Prop where
 bk : Bk w b f
 lo : base ≤ b
 own : ∀ j, 13 ≤ j → j ≤ 20 → w.ownsRow base (ty j) 1 (f j) (xs j).length (xs j)
 dis : ∀ i j k, 13 ≤ i → i ≤ 20 → 13 ≤ j → j ≤ 20 → i ≠ j → (f i).ownBlock = some k → (f j).ownBlock ≠ some k
 kp : ∀ j k, 13 ≤ j → j ≤ 20 → (f j).ownBlock = some k → k ∉ K
 kb : b ∉ K
 kin : ∀ k, k ∈ K → base ≤ k ∧ k < w.heap.size
theorem ty_book (j : Nat) : (75 : Nat) ≠ ty j := by unfold ty; split <;> decide
theorem Iv.rb {w : World} {base b : Nat} {f : Nat → Value} {xs : Nat → List Value} {K : List Nat} (h : Iv w base b f xs K) (j : Nat) (h1 : 13 ≤ j) (h2 : j ≤ 20) : some b ≠ (f j).ownBlock :=
 row_ne h.bk (h.own j h1 h2) (ty_book j)
def Own (b : Nat) (f : Nat → Value) (k : Nat) : Prop := k = b ∨ ∃ j, 13 ≤ j ∧ j ≤ 20 ∧ (f j).ownBlock = some k
theorem Iv.keep {w w' : World} {base b : Nat} {f : Nat → Value} {xs : Nat → List Value} {K G : List Nat} (h : Iv w base b f xs K) (ht : Touch G w w') (hg : ∀ k, k ∈ G → ¬ Own b f k) : Iv w' base b f xs K :=
 ⟨h.bk.touch ht (fun hm => hg b hm (.inl rfl)), h.lo, fun j h1 h2 => row_keep2 (h.own j h1 h2) ht (fun k hk hm => hg k hm (.inr ⟨j, h1, h2, hk⟩)), h.dis, h.kp, h.kb, fun k hk => ⟨(h.kin k hk).1, Nat.lt_of_lt_of_le (h.kin k hk).2 ht.size⟩⟩
theorem Iv.nil {w w' : World} {base b : Nat} {f : Nat → Value} {xs : Nat → List Value} {K : List Nat} (h : Iv w base b f xs K) (ht : Below w.heap.size w w') : Iv w' base b f xs K := h.keep (Touch.of_below ht []) (fun k hk => by cases hk)
theorem Iv.ownLt {w : World} {base b : Nat} {f : Nat → Value} {xs : Nat → List Value} {K : List Nat} (h : Iv w base b f xs K) {k : Nat} (hk : Own b f k) : base ≤ k ∧ k < w.heap.size := by
 rcases hk with rfl | ⟨j, h1, h2, h3⟩
 ·exact ⟨h.lo, h.bk.lt⟩
 ·exact (h.own j h1 h2).lt k h3
theorem Iv.ownK {w : World} {base b : Nat} {f : Nat → Value} {xs : Nat → List Value} {K : List Nat} (h : Iv w base b f xs K) {k : Nat} (hk : Own b f k) : k ∉ K := by
 rcases hk with rfl | ⟨j, h1, h2, h3⟩
 ·exact h.kb
 ·exact h.kp j k h1 h2 h3
theorem Iv.more {w : World} {base b : Nat} {f : Nat → Value} {xs : Nat → List Value} {K : List Nat} (h : Iv w base b f xs K) {k : Nat} (h1 : base ≤ k) (h2 : k < w.heap.size) (h3 : ¬ Own b f k) : Iv w base b f xs (k :: K) := by
 refine ⟨h.bk, h.lo, h.own, h.dis, fun j m a1 a2 a3 hm => ?_, fun hm => ?_, fun m hm => ?_⟩
 ·rcases List.mem_cons.1 hm with rfl | hm
  ·exact h3 (.inr ⟨j, a1, a2, a3⟩)
  ·exact h.kp j m a1 a2 a3 hm
 ·rcases List.mem_cons.1 hm with rfl | hm
  ·exact h3 (.inl rfl)
  ·exact h.kb hm
 ·rcases List.mem_cons.1 hm with rfl | hm
  ·exact ⟨h1, h2⟩
  ·exact h.kin m hm
theorem Iv.field {w : World} {base b : Nat} {f : Nat → Value} {xs : Nat → List Value} {K : List Nat} (h : Iv w base b f xs K) (j : Nat) (v : Value) (hj : j < 13 ∨ 20 < j) (hj2 : j < 121) : Iv (w.setCell ⟨b, j, none⟩ v) base b (put f j v) xs K := by
 have hne : ∀ i, 13 ≤ i → i ≤ 20 → put f j v i = f i := fun i h1 h2 => put_ne _ _ (by omega)
 refine ⟨h.bk.set j v hj2, h.lo, fun i h1 h2 => ?_, fun i m k a1 a2 a3 a4 => ?_, fun i k a1 a2 => ?_, h.kb, fun k hk => ?_⟩
 ·rw [hne i h1 h2]; exact ownsRow_setOther (h.own i h1 h2) (h.rb i h1 h2) _
 ·rw [hne i a1 a2, hne m a3 a4]; exact h.dis i m k a1 a2 a3 a4
 ·rw [hne i a1 a2]; exact h.kp i k a1 a2
 ·have := h.kin k hk; simpa [World.setCell] using this
theorem Iv.drop {w : World} {base b : Nat} {f : Nat → Value} {xs : Nat → List Value} {K : List Nat} (h : Iv w base b f xs K) (j : Nat) (h1 : 13 ≤ j) (h2 : j ≤ 20) : Iv (w.setCell ⟨b, j, none⟩ (.slice none 0 0)) base b (put f j (.slice none 0 0)) (putl xs j []) K := by
 refine ⟨h.bk.set j _ (by omega), h.lo, fun i a1 a2 => ?_, fun i m k a1 a2 a3 a4 a5 => ?_, fun i k a1 a2 => ?_, h.kb, fun k hk => ?_⟩
 ·by_cases hi : i = j
  ·subst hi; rw [put_same, putl_same]; exact World.ownsRow_nil _ _ _ _
  ·rw [put_ne _ _ hi, putl_ne _ _ hi]; exact ownsRow_setOther (h.own i a1 a2) (h.rb i a1 a2) _
 ·by_cases hi : i = j
  ·subst hi; rw [put_same]; intro e; cases e
  ·by_cases hm : m = j
   ·subst hm; rw [put_same]; intro _ e; cases e
   ·rw [put_ne _ _ hi, put_ne _ _ hm]; exact h.dis i m k a1 a2 a3 a4 a5
 ·by_cases hi : i = j
  ·subst hi; rw [put_same]; intro e; cases e
  ·rw [put_ne _ _ hi]; exact h.kp i k a1 a2
 ·have := h.kin k hk; simpa [World.setCell] using this
theorem rowne_bk {w : World} {b base e n : Nat} {f : Nat → Value} {v : Value} {xs : List Value} (h : Bk w b f) (hr : w.ownsRow base e 1 v n xs) (ht : (75 : Nat) ≠ e) : some b ≠ v.ownBlock := row_ne h hr ht
theorem Iv.app {w w1 : World} {base b : Nat} {f : Nat → Value} {xs : Nat → List Value} {K : List Nat} (h : Iv w base b f xs K) (j : Nat) (h1 : 13 ≤ j) (h2 : j ≤ 20) (x v' : Value)
  (hown : w1.ownsRow base (ty j) 1 v' ((xs j).length + 1) (xs j ++ [x])) (ht : Touch (f j).ownBlock.toList w w1) (hat : v'.ownBlock = (f j).ownBlock ∨ ∃ q, v'.ownBlock = some q ∧ w.heap.size ≤ q) :
  Iv (w1.setCell ⟨b, j, none⟩ v') base b (put f j v') (putl xs j (xs j ++ [x])) K ∧ Touch (b :: (f j).ownBlock.toList) w (w1.setCell ⟨b, j, none⟩ v') := by
 have hbn : b ∉ (f j).ownBlock.toList := by
  intro hm
  have h9 : (f j).ownBlock = some b := by simpa using hm
  exact h.rb j h1 h2 h9.symm
 have hk1 : Bk w1 b f := h.bk.touch ht hbn
 have oth : ∀ i, 13 ≤ i → i ≤ 20 → i ≠ j → w1.ownsRow base (ty i) 1 (f i) (xs i).length (xs i) := fun i a1 a2 hi => row_keep2 (h.own i a1 a2) ht (fun k hk hm => h.dis i j k a1 a2 h1 h2 hi hk (by simpa using hm))
 refine ⟨⟨hk1.set j v' (by omega), h.lo, fun i a1 a2 => ?_, fun i m k a1 a2 a3 a4 a5 => ?_, fun i k a1 a2 => ?_, h.kb, fun k hk => ?_⟩, (ht.mono (fun k hk => .inl (by simp at hk; simp [hk]))).trans (Touch.setCell _ _ _ (by simp))⟩
 ·by_cases hi : i = j
  ·subst hi
   rw [put_same, putl_same, List.length_append]
   exact ownsRow_setOther hown (a := ⟨b, i, none⟩) (rowne_bk hk1 hown (ty_book i)) _
  ·rw [put_ne _ _ hi, putl_ne _ _ hi]; exact ownsRow_setOther (oth i a1 a2 hi) (a := ⟨b, j, none⟩) (rowne_bk hk1 (oth i a1 a2 hi) (ty_book i)) _
 ·by_cases hi : i = j
  ·subst hi
   rw [put_same, put_ne _ _ (fun e => a5 e.symm)]
   intro e1 e2
   rcases hat with h3 | ⟨q, h3, h4⟩
   ·exact h.dis i m k a1 a2 a3 a4 a5 (h3 ▸ e1) e2
   ·have := (h.own m a3 a4).lt k e2
    rw [h3] at e1; simp at e1; omega
  ·by_cases hm : m = j
   ·subst hm
    rw [put_same, put_ne _ _ hi]
    intro e1 e2
    rcases hat with h3 | ⟨q, h3, h4⟩
    ·exact h.dis i m k a1 a2 a3 a4 a5 e1 (h3 ▸ e2)
    ·have := (h.own i a1 a2).lt k e1
     rw [h3] at e2; simp at e2; omega
   ·rw [put_ne _ _ hi, put_ne _ _ hm]; exact h.dis i m k a1 a2 a3 a4 a5
 ·by_cases hi : i = j
  ·subst hi
   rw [put_same]
   intro e1 hm
   rcases hat with h3 | ⟨q, h3, h4⟩
   ·exact h.kp i k a1 a2 (h3 ▸ e1) hm
   ·have := (h.kin k hm).2
    rw [h3] at e1; simp at e1; omega
  ·rw [put_ne _ _ hi]; exact h.kp i k a1 a2
 ·have h5 := h.kin k hk
  have := ht.size
  exact ⟨h5.1, by simp [World.setCell]; omega⟩
theorem Iv.appOwn {b j : Nat} {f : Nat → Value} {v' : Value} {n : Nat} (hat : v'.ownBlock = (f j).ownBlock ∨ ∃ q, v'.ownBlock = some q ∧ n ≤ q) (h1 : 13 ≤ j) (h2 : j ≤ 20) {k : Nat} (hk : Own b (put f j v') k) : Own b f k ∨ n ≤ k := by
 rcases hk with rfl | ⟨i, a1, a2, a3⟩
 ·exact .inl (.inl rfl)
 ·by_cases hi : i = j
  ·subst hi
   rw [put_same] at a3
   rcases hat with h3 | ⟨q, h3, h4⟩
   ·exact .inl (.inr ⟨i, a1, a2, h3 ▸ a3⟩)
   ·rw [h3] at a3; simp at a3; subst a3; exact .inr h4
  ·rw [put_ne _ _ hi] at a3
   exact .inl (.inr ⟨i, a1, a2, a3⟩)
def Rd (w : World) (K : List Nat) (v : Value) (l : List Value) : Prop := ∃ a cap, v = .slice a l.length cap ∧ (∀ g, v.ownBlock = some g → g ∈ K) ∧ ∀ (j : Nat) x, l[j]? = some x → ∃ g, a = some ⟨g, 0, none⟩ ∧ w.cell? ⟨g, j, none⟩ = some x
theorem Rd.of {w : World} {K : List Nat} {l : List Value} {g n cap : Nat} (hn : n = l.length) (hg : g ∈ K) (hc : ∀ (j : Nat) x, l[j]? = some x → w.cell? ⟨g, j, none⟩ = some x) : Rd w K (.slice (some ⟨g, 0, none⟩) n cap) l :=
 ⟨_, cap, by rw [hn], fun k hk => by simp [Value.ownBlock] at hk; rw [← hk]; exact hg, fun j x hj => ⟨g, rfl, hc j x hj⟩⟩
theorem Rd.keep {w w' : World} {K G : List Nat} {v : Value} {l : List Value} (h : Rd w K v l) (ht : Touch G w w') (hg : ∀ k, v.ownBlock = some k → k ∉ G) : Rd w' K v l := by
 obtain ⟨a, cap, rfl, hk, hc⟩ := h
 refine ⟨a, cap, rfl, hk, fun j x hj => ?_⟩
 obtain ⟨g, rfl, h1⟩ := hc j x hj
 refine ⟨g, rfl, ?_⟩
 rw [← h1]
 simp [World.cell?, ht.block g (World.block_lt_of_cell? _ _ h1) (hg g rfl)]
theorem Rd.wide {w : World} {K K' : List Nat} {v : Value} {l : List Value} (h : Rd w K v l) (hk : ∀ k, k ∈ K → k ∈ K') : Rd w K' v l := by
 obtain ⟨a, cap, h1, h2, h3⟩ := h
 exact ⟨a, cap, h1, fun g hg => hk g (h2 g hg), h3⟩
theorem Rd.more {w : World} {K : List Nat} {v : Value} {l : List Value} (h : Rd w K v l) (k : Nat) : Rd w (k :: K) v l := h.wide (fun _ hm => List.mem_cons_of_mem _ hm)
theorem Rd.inK {w : World} {K : List Nat} {v : Value} {l : List Value} (h : Rd w K v l) : ∀ g, v.ownBlock = some g → g ∈ K := by
 obtain ⟨a, cap, h1, h2, h3⟩ := h
 exact h2
theorem Rd.off {w w' : World} {K G : List Nat} {v : Value} {l : List Value} (h : Rd w K v l) (ht : Touch G w w') (hg : ∀ k, k ∈ G → k ∉ K) : Rd w' K v l :=
 h.keep ht (fun k hk hm => hg k hm (h.inK k hk))
theorem ksame_any (K : List Nat) (v u : Value) (l : List Int) (w : World) (hl : l.length < 100000000000000) (h1 : Rd w K v (ints l)) (h2 : Rd w K u (ints l)) :
  Calls Tryz.prog 143 #[v, u] w fun e w' => e = .returned (.bool true) ∧ w = w' := by
 obtain ⟨a, cap, rfl, -, hc1⟩ := h1
 obtain ⟨a', cap', rfl, -, hc2⟩ := h2
 have H1 : Hid (∀ (j : Nat) x, l[j]? = some x → ∃ b, a = some ⟨b, 0, none⟩ ∧ w.cell? ⟨b, j, none⟩ = some (.int .i64 x)) := fun j x hj => hc1 j _ (by simp [ints, hj])
 have H2 : Hid (∀ (j : Nat) x, l[j]? = some x → ∃ b, a' = some ⟨b, 0, none⟩ ∧ w.cell? ⟨b, j, none⟩ = some (.int .i64 x)) := fun j x hj => hc2 j _ (by simp [ints, hj])
 clear hc1 hc2
 rw [show (ints l).length = l.length by simp [ints]]
 go_enter Tryz.func143, Tryz.ntmps143
 go_wp2
 go_loopw [5] (fun i wr => ∃ k : Nat, k ≤ l.length ∧ i = .int .i64 k ∧ wr = w) (fun i _ => l.length - (intOf i).toNat)
 case atStart => exact ⟨0, Nat.zero_le _, rfl, rfl⟩
 case round =>
  obtain ⟨k, hk, rfl, rfl⟩ := hrel
  by_cases hlt : k < l.length
  ·obtain ⟨x, hx⟩ : ∃ x, l[k]? = some x := ⟨_, List.getElem?_eq_getElem hlt⟩
   obtain ⟨b, rfl, c1⟩ := H1.out k x hx
   obtain ⟨b', rfl, c2⟩ := H2.out k x hx
   have hki : (k : Int) < l.length := by omega
   clear hx
   go_wp2
   go_roundw
   case rel => exact ⟨k + 1, hlt, by go_num, trivial⟩
   case measure => simp [intOf]; omega
  ·obtain rfl : k = l.length := by omega
   go_wp2
   go_ret
   exact ⟨rfl, rfl⟩
theorem due_any {w : World} {b : Nat} {f : Nat → Value} (h : Bk w b f) (turn : Int) (n : Nat) (h0 : f 0 = .bool false) (h2 : f 2 = .int .i64 turn) (ht0 : 0 ≤ turn) (ht : turn < 4000000000) (hn : n < 4000000000) :
  Calls Tryz.prog 97 #[.pointer (some ⟨b, 0, none⟩), .int .i64 n] w fun e w' => (∃ d, e = .returned (.int .i64 d)) ∧ w = w' := by
 have c0 := h.cell 0
 have c2 := h.cell 2
 rw [h0] at c0
 rw [h2] at c2
 clear h h0 h2
 by_cases m0 : n % 3 = 0
 ·have m1 : (n : Int) % 3 = 0 := by omega
  go_enter Tryz.func97, Tryz.ntmps97
  go_wp2
  go_ret
  exact ⟨⟨_, rfl⟩, rfl⟩
 ·have m1 : ((n : Int) % 3 == 0) = false := by simp; omega
  by_cases m2 : n % 3 = 1
  ·have m3 : (n : Int) % 3 = 1 := by omega
   go_enter Tryz.func97, Tryz.ntmps97
   go_wp2
   go_ret
   exact ⟨⟨_, rfl⟩, rfl⟩
  ·have m3 : ((n : Int) % 3 == 1) = false := by simp; omega
   go_enter Tryz.func97, Tryz.ntmps97
   go_wp2
   go_ret
   exact ⟨⟨_, rfl⟩, rfl⟩
structure Prs (w : World) (K : List Nat) (A B : List Value) : Prop where
 len : A.length = B.length
 at_ : ∀ (i : Nat) v, A[i]? = some v → ∃ u l, B[i]? = some u ∧ Rd w K v (ints l) ∧ Rd w K u (ints l) ∧ l.length ≤ 11000000000000
theorem Prs.off {w w' : World} {K G : List Nat} {A B : List Value} (h : Prs w K A B) (ht : Touch G w w') (hg : ∀ k, k ∈ G → k ∉ K) : Prs w' K A B :=
 ⟨h.len, fun i v hv => by
  obtain ⟨u, l, h1, h2, h3, h4⟩ := h.at_ i v hv
  exact ⟨u, l, h1, h2.off ht hg, h3.off ht hg, h4⟩⟩
theorem Prs.more {w : World} {K : List Nat} {A B : List Value} (h : Prs w K A B) (k : Nat) : Prs w (k :: K) A B :=
 ⟨h.len, fun i v hv => by
  obtain ⟨u, l, h1, h2, h3, h4⟩ := h.at_ i v hv
  exact ⟨u, l, h1, h2.more k, h3.more k, h4⟩⟩
theorem Prs.snoc {w : World} {K : List Nat} {A B : List Value} (h : Prs w K A B) (v u : Value) (l : List Int) (h1 : Rd w K v (ints l)) (h2 : Rd w K u (ints l)) (h3 : l.length ≤ 11000000000000) : Prs w K (A ++ [v]) (B ++ [u]) := by
 refine ⟨by simp [h.len], fun i x hx => ?_⟩
 by_cases hi : i < A.length
 ·rw [List.getElem?_append_left hi] at hx
  obtain ⟨y, m, q1, q2, q3, q4⟩ := h.at_ i x hx
  exact ⟨y, m, by rw [List.getElem?_append_left (by have := h.len; omega)]; exact q1, q2, q3, q4⟩
 ·have hl := (List.getElem?_eq_some_iff.1 hx).1
  simp at hl
  obtain rfl : i = A.length := by omega
  rw [List.getElem?_append_right (Nat.le_refl _)] at hx
  simp at hx
  subst hx
  exact ⟨u, l, by rw [h.len, List.getElem?_append_right (Nat.le_refl _)]; simp, h1, h2, h3⟩
theorem Prs.nil (w : World) (K : List Nat) : Prs w K [] [] := ⟨rfl, fun i v hv => by simp at hv⟩
theorem row_val {w : World} {base n e : Nat} {v : Value} {xs : List Value} (h : w.ownsRow base e 1 v n xs) (j : Nat) (x : Value) (hj : xs[j]? = some x) : ∃ g cap, v = .slice (some ⟨g, 0, none⟩) n cap ∧ w.cell? ⟨g, j, none⟩ = some x := by
 have hjl := (List.getElem?_eq_some_iff.1 hj).1
 have hl : xs.length = n := by simpa using h.1
 rcases h.2 with ⟨rfl, h0⟩ | ⟨g, cap, cur, rfl, _⟩
 ·omega
 ·refine ⟨g, cap, rfl, ?_⟩
  rw [h.cellAt _ (by omega)]; exact hj
theorem row_sl {w : World} {base n e : Nat} {v : Value} {xs : List Value} (h : w.ownsRow base e 1 v n xs) : ∃ a cap, v = .slice a n cap := by
 rcases h.2 with ⟨rfl, rfl⟩ | ⟨g, cap, cur, rfl, _⟩
 ·exact ⟨_, _, rfl⟩
 ·exact ⟨_, _, rfl⟩
theorem still_tail {P : Program} {id : Nat} {Q : Exit → Act → World → Prop} {a : Act} {w : World} {l : List Oper} (n : Nat) (hm : P.follows .mixedOrders = true) (hB : Region.lexTailB .any l.toArray n = true)
  (h : wpStill P l.toArray w.drew (fun a' => wpList P l.toArray Q (l.drop n) a' w.drew) (l.take n) a) : (Code.region id l.toArray true).wp P Q a w := wp_region_still_tail n hm hB h
theorem still_of_quiet {P : Program} {ops : Array Oper} {w0 : World} {Q : Act → Prop} : ∀ (l : List Oper) (a : Act), wpQuiet P ops (fun w' => w' = w0) Q l a → wpStill P ops w0 Q l a
 | [], _, h => h
 | o :: rest, a, h => by
  unfold wpQuiet at h
  unfold wpStill
  by_cases hw : Region.wanted o (yielded ops a.tmps) = true
  ·rw [if_pos hw] at h ⊢
   obtain ⟨v, h1, h2⟩ := h
   have h3 := h1 w0 rfl
   have h4 := still_of_quiet rest _ h2
   unfold Oper.quietAt at h3
   unfold Oper.still
   cases hr : (execOp a.eval o).run P w0 with
   | ok x w' =>
    rw [hr] at h3
    cases x with
    | value u => exact ⟨h3.1, by rw [h3.2]; exact h4⟩
    | skip => exact ⟨h3.1, by rw [← h3.2]; exact h4⟩
    | enter f args => exact ⟨h3.1, v, h3.2, h4⟩
    | _ => exact h3.elim
   | _ => rw [hr] at h3; exact h3.elim
  ·rw [if_neg hw] at h ⊢
   exact still_of_quiet rest _ h
theorem quiet_tail {P : Program} {id : Nat} {Q : Exit → Act → World → Prop} {a : Act} {w : World} {l : List Oper} (n : Nat) (hm : P.follows .mixedOrders = true) (hB : Region.lexTailB .any l.toArray n = true)
  (h : wpQuiet P l.toArray (fun w' => w' = w.drew) (fun a' => wpList P l.toArray Q (l.drop n) a' w.drew) (l.take n) a) : (Code.region id l.toArray true).wp P Q a w := still_tail n hm hB (still_of_quiet _ _ h)
theorem mixed : Tryz.prog.follows .mixedOrders = true := by kernel_rfl
def lateB (md : Region.Mode) (ops : Array Oper) (n : Nat) : Bool :=
 (List.range ops.size).all fun t => decide (t ≤ n) || (List.range t).any fun u => decide (n ≤ u) && Region.waitsFor md ops t u
def partB (md : Region.Mode) (ops : Array Oper) (n : Nat) : Nat → Nat → Array Bool → Bool
 | 0, _, listed => decide (Region.ready md ops listed = [n]) && Region.lexFrom md ops (ops.size - (n + 1)) (n + 1) (listed.setIfInBounds n true)
 | f + 1, k, listed => (Region.ready md ops listed).contains k && Region.free md ops listed k && partB md ops n f (k + 1) (listed.setIfInBounds k true)
def callB (md : Region.Mode) (ops : Array Oper) (n : Nat) : Bool :=
 Region.noSelect ops && decide (n < ops.size) && Region.sinkB md ops n && lateB md ops n && partB md ops n n 0 (Array.replicate ops.size false)
theorem late_waits {md : Region.Mode} {ops : Array Oper} {n : Nat} {listed : Array Bool} (hs : Region.sinkB md ops n = true) (hl : lateB md ops n = true) (inv : HeadInv md ops n listed) {i : Nat} (hi : i < n) (hun : listed.getD i true = false) {t : Nat} (ht : n ≤ t) : t ∉ Region.ready md ops listed := by
 intro hr
 obtain ⟨_, ot, hot, hall⟩ := mem_ready.1 hr
 have htl : t < ops.size := (Array.getElem?_eq_some_iff.1 hot).1
 rcases Nat.lt_or_ge n t with h | h
 ·have h1 := List.all_eq_true.1 hl t (List.mem_range.2 htl)
  simp only [Bool.or_eq_true, decide_eq_true_eq] at h1
  rcases h1 with h1 | h1
  ·omega
  ·obtain ⟨u, hu, hu2⟩ := List.any_eq_true.1 h1
   simp only [Bool.and_eq_true, decide_eq_true_eq] at hu2
   have hut := List.mem_range.1 hu
   obtain ⟨o', ho', e, he, hb, hon⟩ := Region.waitsFor_spec hu2.2
   cases Option.some.inj (ho'.symm.trans hot)
   have h2 := hall e he hb
   rw [hon, getD_both (inv.tail u hu2.1 (by omega))] at h2
   cases h2
 ·obtain rfl : t = n := by omega
  clear ht h
  -- the last of the head that isn't listed
  have key : ∀ d i, t - i = d → i < t → listed.getD i true = false → False := by
   intro d
   induction d using Nat.strongRecOn with
   | _ d ih =>
    intro i hd hi hun
    obtain ⟨j, hj, hj2⟩ := List.any_eq_true.1 (List.all_eq_true.1 hs i (List.mem_range.2 hi))
    simp only [Bool.and_eq_true, decide_eq_true_eq] at hj2
    have hjt := List.mem_range.1 hj
    obtain ⟨oj, hoj, e, he, hb, hon⟩ := Region.waitsFor_spec hj2.2
    rcases Nat.lt_or_ge j t with h | h
    ·cases hlj : listed.getD j false with
     | true =>
      have h2 := inv.closed j oj hoj hlj e he hb
      rw [hon, getD_both hun] at h2
      cases h2
     | false => exact ih (t - j) (by omega) j rfl h (getD_in (by rw [inv.size]; omega) hlj)
    ·obtain rfl : j = t := by omega
     cases Option.some.inj (hoj.symm.trans hot)
     have h2 := hall e he hb
     rw [hon, getD_both hun] at h2
     cases h2
  exact key _ i rfl hi hun
section
variable {P : Program} {ops : Array Oper} {md : Region.Mode} {w : World}
theorem headL_first {n i : Nat} {oi : Oper} {v : Value} {L : Array Bool → Act → Prop} (hi : ops[i]? = some oi) (hsel : ∀ (j : Nat) (o : Oper) cs b, ops[j]? = some o → o.op ≠ .select cs b)
  (hs : Region.sinkB md ops n = true) (hl : lateB md ops n = true) (hin : i < n) (hdone : ∀ listed a, L listed a → ∀ j ∈ Region.ready md ops listed, n ≤ j) :
  ∀ (f : Nat) (listed : Array Bool) (a : Act), HeadInv md ops n listed →
   (∀ j oj, ops[j]? = some oj → j ≠ i → listed.getD j true = false → (∀ e ∈ oj.after, Region.binds md e = true → e.on ≠ i) → oi.apart ops oj = true) →
   i ∈ Region.ready md ops listed → YieldsAt P ops w oi v a →
   wpAnyL P md ops w n L f (listed.setIfInBounds i true) (a.put oi.dst v) → wpAnyL P md ops w n L (f + 1) listed a
 | f, listed, a, inv, hfree, hr, hy, H => by
  have hun := (mem_ready.1 hr).1
  refine ⟨fun h => (by rw [h] at hr; cases hr), fun j hj => ?_⟩
  have hjn : j < n := Nat.lt_of_not_le fun h => late_waits hs hl inv hin hun h hj
  refine ⟨hjn, ?_⟩
  by_cases hji : j = i
  ·subst hji; exact hy.stOp hi H
  ·match f, H with
   | 0, H => have := hdone _ _ H j (ready_mono hj hji); omega
   | f + 1, H =>
    have h1 := (H.2 j (ready_mono hj hji)).2
    obtain ⟨hjun, oj, hoj, hall⟩ := mem_ready.1 hj
    have hnot : ∀ e ∈ oj.after, Region.binds md e = true → e.on ≠ i := fun e he hb heq => by
     have h1 := hall e he hb
     rw [heq, getD_both hun] at h1
     cases h1
    refine stOp_mono (fun a' h3 => headL_first hi hsel hs hl hin hdone f (listed.setIfInBounds j true) a' (inv.set hj hjn) (fun k ok hk hki hun' hno => ?_) (ready_mono hr (Ne.symm hji)) h3.1 ?_)
     (stOp_put hoj (hfree j oj hoj hji hjun hnot) (fun cs b => hsel i oi cs b hi) (fun cs b => hsel j oj cs b hoj) hy h1)
    ·refine hfree k ok hk hki ?_ hno
     by_cases hjk : j = k
     ·subst hjk; exact hjun
     ·rwa [getD_set_ne true hjk] at hun'
    ·rw [Array.setIfInBounds_comm _ _ hji]
     exact h3.2
theorem headL_lex {n : Nat} {Lq : Act → Prop} (hsel : Region.noSelect ops = true) (hs : Region.sinkB md ops n = true) (hl : lateB md ops n = true) :
  ∀ (l : List Oper) (k : Nat) (listed : Array Bool) (a : Act), (∀ j, j < l.length → l[j]? = ops[k + j]?) → k + l.length = n → HeadInv md ops n listed → partB md ops n l.length k listed = true → wpStill P ops w Lq l a →
  wpAnyL P md ops w n (fun listed' a' => (Region.ready md ops listed' = [n] ∧ Region.lexFrom md ops (ops.size - (n + 1)) (n + 1) (listed'.setIfInBounds n true) = true) ∧ Lq a') l.length listed a
 | [], k, listed, a, _, _, _, hB, h => by
  simp only [List.length_nil, partB, Bool.and_eq_true, decide_eq_true_eq] at hB
  exact ⟨hB, h⟩
 | o :: l, k, listed, a, hll, hk, inv, hB, h => by
  have h0 : ops[k]? = some o := by simpa using (hll 0 (by simp)).symm
  simp only [List.length_cons, partB, Bool.and_eq_true] at hB
  obtain ⟨⟨hr, hf⟩, hB'⟩ := hB
  have hkn : k < n := by simp only [List.length_cons] at hk; omega
  have hr' : k ∈ Region.ready md ops listed := by simpa using hr
  have hst : stOp P ops w k (wpStill P ops w Lq l) a := by unfold stOp; simp only [h0]; exact h
  obtain ⟨v, hy, hK⟩ := yieldsAt_of_stOp h0 hst
  exact headL_first h0 (Region.noSelect_spec hsel) hs hl hkn (fun listed' a' hL j hj => by rw [hL.1.1] at hj; simp at hj; omega) l.length listed a inv (Region.free_spec h0 hf) hr' hy
   (headL_lex hsel hs hl l (k + 1) _ _ (fun j hj => by have := hll (j + 1) (by simp; omega); simpa [Nat.add_assoc, Nat.add_comm 1 j] using this) (by simp only [List.length_cons] at hk; omega) (inv.set hr' hkn) hB' hK)
end
def thenQuiet (P : Program) (ops : Array Oper) (rest : List Oper) (Q : Exit → Act → World → Prop) : Exit → Act → World → Prop
 | .normal, a, w => wpQuiet P ops (fun w' => w' = w) (fun a' => Q .normal a' w) rest a
 | e, a, w => Q e a w
theorem thenQuiet_mk {P : Program} {ops : Array Oper} {rest : List Oper} {Q : Exit → Act → World → Prop} {a : Act} {w : World} (h : wpQuiet P ops (fun w' => w' = w) (fun a' => Q .normal a' w) rest a) : thenQuiet P ops rest Q .normal a w := h
theorem op_then {P : Program} {ops rops : Array Oper} {rest : List Oper} {o : Oper} {Q : Exit → Act → World → Prop} {K : Act → World → Prop} {a : Act} {w : World} (hq : ∀ a w, thenQuiet P rops rest Q .normal a w → K a w) {i : Nat} (hi : ops[i]? = some o)
  (h : wpList P ops (thenQuiet P rops rest Q) [o] a w) : wpOp P ops Q i K a w := by
 have hlo : LetsOut (thenQuiet P rops rest Q) → LetsOut Q := fun ⟨a, w, h⟩ => ⟨a, w, h⟩
 unfold wpOp
 simp only [hi]
 unfold wpList at h
 split
 ·rename_i hw
  simp only [hw, if_true] at h
  rcases h with h | ⟨h1, h2⟩
  ·left
   unfold Oper.wp at h ⊢
   generalize (execOp a.eval o).run P w = r at *
   cases r with
   | ok n w' =>
    cases n <;> simp only [Oper.upon] at h ⊢
    case value u => exact hq _ _ h
    case skip => exact hq _ _ h
    case defer d => exact hq _ _ h
    case enter f args =>
     refine Calls.mono h fun e w'' he => ?_
     cases e with
     | returned u => exact hq _ _ he
     | panicked c => exact he
     | outgrown => exact hlo he
    case row row args => exact Rows.mono h fun u w'' he => hq _ _ he
   | halt x w' =>
    cases x <;> simp only [Oper.upon] at h ⊢
    case panic u => exact h
  ·exact .inr ⟨h1, hlo h2⟩
 ·rename_i hw
  simp only [hw] at h
  exact hq _ _ h
theorem quiet_call {P : Program} {id : Nat} {Q : Exit → Act → World → Prop} {a : Act} {w : World} {l : List Oper} (n : Nat) (hm : P.follows .mixedOrders = true) (hB : callB .any l.toArray n = true)
  (h : wpQuiet P l.toArray (fun w' => w' = w.drew) (fun a' => wpList P l.toArray (thenQuiet P l.toArray (l.drop (n + 1)) Q) ((l.drop n).take 1) a' w.drew) (l.take n) a) : (Code.region id l.toArray true).wp P Q a w := by
 simp only [callB, Bool.and_eq_true, decide_eq_true_eq] at hB
 obtain ⟨⟨⟨⟨hsel, hn⟩, hs⟩, hl⟩, hp⟩ := hB
 have hn' : n < l.length := by simpa using hn
 have htl : (l.take n).length = n := by simp; omega
 obtain ⟨o, ho⟩ : ∃ o, l[n]? = some o := ⟨_, List.getElem?_eq_getElem hn'⟩
 have hd1 : (l.drop n).take 1 = [o] := by
  rw [List.drop_eq_getElem_cons hn', List.take_succ_cons, List.take_zero]
  rw [List.getElem?_eq_getElem hn'] at ho
  rw [Option.some.inj ho]
 have inv0 : HeadInv .any l.toArray n (Array.replicate l.toArray.size false) :=
  ⟨by simp, fun j oj _ hl => (by rw [getD_replicate_false] at hl; cases hl), fun t _ ht => getD_in (by simpa using ht) (getD_replicate_false _ _)⟩
 have H := headL_lex (md := .any) hsel hs hl (l.take n) 0 _ a (fun j hj => by
  have hj' : j < n := by rw [htl] at hj; exact hj
  simp [hj']) (by simpa using htl) inv0 (by rw [htl]; exact hp) (still_of_quiet _ _ h)
 refine wp_region_any hm ?_
 have hlen : (l.drop (n + 1)).length = l.toArray.size - (n + 1) := by simp
 have := wpAny_of_head (Q' := Q) (g := (l.toArray.size - (n + 1)) + 1) (fun listed a' hL => by
  obtain ⟨⟨h1, h2⟩, h3⟩ := hL
  rw [hd1] at h3
  refine ⟨fun h0 => (by rw [h1] at h0; cases h0), fun i hi => ?_⟩
  rw [h1] at hi
  obtain rfl : i = n := by simpa using hi
  refine op_then (fun a2 w2 hq => ?_) (by simpa using ho) h3
  have hq' : wpQuiet P l.toArray (fun w' => w' = w2) (fun a' => Q .normal a' w2) (l.drop (i + 1)) a2 := hq
  have := wpAnyQ_lex (md := .any) hsel (l.drop (i + 1)) (i + 1) (listed.setIfInBounds i true) a2 (fun j => by simp [List.getElem?_drop]) (by rw [hlen]; exact h2) hq'
  rw [hlen] at this
  exact wpAny_of_quiet (C := fun w' => w' = w2) (fun a3 w3 hw hq3 => by rw [hw]; exact hq3) _ _ _ _ rfl this) _ _ _ H
 rw [htl, show n + (l.toArray.size - (n + 1) + 1) = l.toArray.size by omega] at this
 exact this
end Go.Proofs.YtlkengnefhhppaaGreatDoor.Kg
