import Derived.Test.YtlkengnefhhppaaGreatDoorPYb
import Derived.Test.YtlkengnefhhppaaGreatDoorPKe
import Derived.Test.YtlkengnefhhppaaGreatDoorPQa
import Derived.Test.YtlkengnefhhppaaGreatDoorPQb
import Derived.Test.YtlkengnefhhppaaGreatDoorUYD6
set_option linter.unusedVariables false
set_option maxHeartbeats 8000000
set_option maxRecDepth 20000
namespace Go.Proofs.YtlkengnefhhppaaGreatDoor
open Go.RowKit
theorem Touch.kg {F : List Nat} {w w' : World} (h : Touch F w w') : Kg.Touch F w w' := ⟨h.os, h.tape, h.output, h.size, h.block⟩
theorem touch_of_kg {F : List Nat} {w w' : World} (h : Kg.Touch F w w') : Touch F w w' := ⟨h.os, h.tape, h.output, h.size, h.block⟩
theorem own_keep {w w' : World} {base n e size k : Nat} {v : Value} {xs : List Value} (h : w.ownsRow base e size v n xs) (hk : ∀ k, v.ownBlock = some k → w'.heap[k]? = w.heap[k]?) : w'.ownsRow base e size v n xs := by
 refine ⟨h.1, ?_⟩
 rcases h.2 with hn | ⟨g, cap, cur, rfl, hb', hg, rest⟩
 ·exact .inl hn
 ·refine .inr ⟨g, cap, cur, rfl, hb', ?_, rest⟩
  rw [hk g rfl]; exact hg
def For (b : Nat) (f : Nat → Value) (K : List Nat) (w : World) (k : Nat) : Prop := k < w.heap.size ∧ ¬ Kg.Own b f k ∧ k ∉ K
theorem for_ey {w w' : World} {b k : Nat} {f f' : Nat → Value} {K K' : List Nat} {v : Value} (h : Kg.Ey w w' b f f' (v.ownBlock.toList ++ K) K') (hk : For b f K w k) (hv : v.ownBlock ≠ some k) : w'.heap[k]? = w.heap[k]? ∧ For b f' K' w' k := by
 obtain ⟨G, h1, h2⟩ := h.t
 have hn : k ∉ v.ownBlock.toList ++ K := fun hm => by
  rcases List.mem_append.1 hm with hm | hm
  ·exact hv (by simpa using hm)
  ·exact hk.2.2 hm
 refine ⟨h1.block k hk.1 (fun hm => ?_), Nat.lt_of_lt_of_le hk.1 h1.size, fun ho => ?_, fun hm => ?_⟩
 ·rcases h2 k hm with h3 | h3
  ·exact hk.2.1 h3
  ·exact hn h3
 ·rcases h.o k ho with h3 | h3
  ·exact hk.2.1 h3
  ·have := hk.1; omega
 ·rcases h.n k hm with h3 | h3 | h3
  ·exact hn h3
  ·exact hk.2.1 h3
  ·have := hk.1; omega
structure Sp (w : World) (base b : Nat) (f : Nat → Value) (K : List Nat) (L : List (Option (Value × List Int))) (F : List Nat) : Prop where
 row : ∀ (i : Nat) v l, L[i]? = some (some (v, l)) → Kg.Row w base v l
 fo : ∀ (i : Nat) v l, L[i]? = some (some (v, l)) → ∀ g, v.ownBlock = some g → For b f K w g ∧ g ∉ F
 pw : ∀ (i j : Nat) v l u m, L[i]? = some (some (v, l)) → L[j]? = some (some (u, m)) → i ≠ j → Kg.Far v u
 ff : ∀ k, k ∈ F → For b f K w k
theorem Sp.set_none {w : World} {base b : Nat} {f : Nat → Value} {K : List Nat} {L : List (Option (Value × List Int))} {F : List Nat} (h : Sp w base b f K L F) (n : Nat) : Sp w base b f K (L.set n none) F := by
 have back : ∀ (i : Nat) v l, (L.set n none)[i]? = some (some (v, l)) → L[i]? = some (some (v, l)) := fun i v l hi => by
  rw [List.getElem?_set] at hi
  split at hi
  ·split at hi <;> simp at hi
  ·exact hi
 exact ⟨fun i v l hi => h.row i v l (back i v l hi), fun i v l hi => h.fo i v l (back i v l hi), fun i j v l u m hi hj hn => h.pw i j v l u m (back i v l hi) (back j u m hj) hn, h.ff⟩
theorem Sp.ints {w w' : World} {base b : Nat} {f f' : Nat → Value} {K K' : List Nat} {L : List (Option (Value × List Int))} {F : List Nat} (h : Sp w base b f K L F) {n : Nat} {v : Value} {l : List Int} (hn : L[n]? = some (some (v, l))) (hE : Kg.Ey w w' b f f' (v.ownBlock.toList ++ K) K') : Sp w' base b f' K' (L.set n none) F ∧ ∀ k, k ∈ F → w'.heap[k]? = w.heap[k]? := by
 have back : ∀ (i : Nat) u m, (L.set n none)[i]? = some (some (u, m)) → L[i]? = some (some (u, m)) ∧ i ≠ n := fun i u m hi => by
  rw [List.getElem?_set] at hi
  split at hi
  ·split at hi <;> simp at hi
  ·rename_i hne
   exact ⟨hi, fun e => hne e.symm⟩
 have nv : ∀ (i : Nat) u m, (L.set n none)[i]? = some (some (u, m)) → ∀ g, u.ownBlock = some g → v.ownBlock ≠ some g := fun i u m hi g hg e => by
  obtain ⟨h1, h2⟩ := back i u m hi
  exact h.pw i n u m v l h1 hn h2 g hg e
 have nf : ∀ k, k ∈ F → v.ownBlock ≠ some k := fun k hk e => (h.fo n v l hn k e).2 hk
 refine ⟨⟨fun i u m hi => ?_, fun i u m hi g hg => ?_, fun i j v l u m hi hj hne => h.pw i j v l u m (back i v l hi).1 (back j u m hj).1 hne, fun k hk => (for_ey hE (h.ff k hk) (nf k hk)).2⟩, fun k hk => (for_ey hE (h.ff k hk) (nf k hk)).1⟩
 ·obtain ⟨h1, h2⟩ := back i u m hi
  exact own_keep (k := 0) (h.row i u m h1) (fun k e => (for_ey hE (h.fo i u m h1 k e).1 (nv i u m hi k e)).1)
 ·obtain ⟨h1, h2⟩ := back i u m hi
  exact ⟨(for_ey hE (h.fo i u m h1 g hg).1 (nv i u m hi g hg)).2, (h.fo i u m h1 g hg).2⟩
theorem Sp.touch {w w' : World} {base b : Nat} {f : Nat → Value} {K : List Nat} {L : List (Option (Value × List Int))} {F : List Nat} (h : Sp w base b f K L F) (ht : Kg.Touch F w w') : Sp w' base b f K L F :=
 ⟨fun i v l hi => own_keep (k := 0) (h.row i v l hi) (fun k e => ht.block k (h.fo i v l hi k e).1.1 (h.fo i v l hi k e).2),
  fun i v l hi g hg => ⟨⟨Nat.lt_of_lt_of_le (h.fo i v l hi g hg).1.1 ht.size, (h.fo i v l hi g hg).1.2⟩, (h.fo i v l hi g hg).2⟩, h.pw,
  fun k hk => ⟨Nat.lt_of_lt_of_le (h.ff k hk).1 ht.size, (h.ff k hk).2⟩⟩
theorem Sp.new {w w' : World} {base b : Nat} {f : Nat → Value} {xs : Nat → List Value} {K : List Nat} {L : List (Option (Value × List Int))} {F : List Nat} (h : Sp w base b f K L F) (hI : Kg.Iv w base b f xs K) (ht : Kg.Touch F w w') {v : Value} {l : List Int} (hr : Kg.Row w' w.heap.size v l) (n : Nat) : Sp w' base b f K (L.set n (some (v, l))) F := by
 have h' := h.touch ht
 have hb : base ≤ w.heap.size := by have := hI.lo; have := hI.bk.lt; omega
 have cs : ∀ (i : Nat) u m, (L.set n (some (v, l)))[i]? = some (some (u, m)) → (i = n ∧ u = v ∧ m = l) ∨ (i ≠ n ∧ L[i]? = some (some (u, m))) := fun i u m hi => by
  rw [List.getElem?_set] at hi
  split at hi
  ·rename_i e
   split at hi
   ·simp at hi; exact .inl ⟨e.symm, hi.1.symm, hi.2.symm⟩
   ·cases hi
  ·rename_i e
   exact .inr ⟨fun h => e h.symm, hi⟩
 have nw : ∀ g, v.ownBlock = some g → w.heap.size ≤ g ∧ g < w'.heap.size := fun g hg => hr.lt g hg
 refine ⟨fun i u m hi => ?_, fun i u m hi g hg => ?_, fun i j x l1 y l2 hi hj hne => ?_, h'.ff⟩
 ·rcases cs i u m hi with ⟨_, rfl, rfl⟩ | ⟨_, hi⟩
  ·exact Kg.row_base hr hb
  ·exact h'.row i u m hi
 ·rcases cs i u m hi with ⟨_, rfl, rfl⟩ | ⟨_, hi⟩
  ·have := nw g hg
   exact ⟨⟨this.2, fun ho => by have := (hI.ownLt ho).2; omega, fun hm => by have := (hI.kin g hm).2; omega⟩, fun hm => by have := (h.ff g hm).1; omega⟩
  ·exact h'.fo i u m hi g hg
 ·rcases cs i x l1 hi with ⟨hi9, hx, _⟩ | ⟨hin, hi9⟩
  ·rcases cs j y l2 hj with ⟨hj9, _⟩ | ⟨_, hj9⟩
   ·exact absurd (hi9.trans hj9.symm) hne
   ·intro g hg e
    rw [hx] at hg
    have := nw g hg
    have := (h.fo j y l2 hj9 g e).1.1
    omega
  ·rcases cs j y l2 hj with ⟨_, hy, _⟩ | ⟨_, hj9⟩
   ·intro g hg e
    rw [hy] at e
    have := nw g e
    have := (h.fo i x l1 hi9 g hg).1.1
    omega
   ·exact h.pw i j x l1 y l2 hi9 hj9 hne
theorem bok_touch {w w' : World} {base b : Nat} {f : Nat → Value} {xs : Nat → List Value} {K G : List Nat} {ms ds : List Int} {turn : Int} {seen T : Nat} {deep : Int} (h : Kg.Bok w base b f xs K ms ds turn seen T deep) (ht : Kg.Touch G w w') (hG : ∀ k, k ∈ G → ¬ Kg.Own b f k ∧ k ∉ K) : Kg.Bok w' base b f xs K ms ds turn seen T deep :=
 ⟨h.iv.keep ht (fun k hk => (hG k hk).1), h.pr.off ht (fun k hk => (hG k hk).2), h.wt.keep ht (fun _ hk => hk) (fun v hv k hk hm => (hG k hm).2 (h.wt.inA hv k hk)) (fun v hv k hk hm => (hG k hm).2 (h.wt.inN hv k hk)), h.e18, h.e19, h.l19, h.e17, h.e20, h.dst, h.ns, h.f0, h.f1, h.f2, h.f3, h.f21, h.t0, h.t1, h.s1, h.len⟩
theorem Sp.more {w w' : World} {base b : Nat} {f : Nat → Value} {xs : Nat → List Value} {K : List Nat} {L : List (Option (Value × List Int))} {F F' : List Nat} (h : Sp w base b f K L F) (hI : Kg.Iv w base b f xs K) (ht : Kg.Touch F w w') (hn : Kg.Newer w.heap.size F F') (hl : ∀ k, k ∈ F' → k < w'.heap.size) : Sp w' base b f K L F' := by
 have h' := h.touch ht
 refine ⟨h'.row, fun i v l hi g hg => ⟨(h'.fo i v l hi g hg).1, fun hm => ?_⟩, h'.pw, fun k hk => ?_⟩
 ·rcases hn g hm with h1 | h1
  ·exact (h.fo i v l hi g hg).2 h1
  ·have := (h.fo i v l hi g hg).1.1; omega
 ·rcases hn k hk with h1 | h1
  ·exact h'.ff k h1
  ·exact ⟨hl k hk, fun ho => by have := (hI.ownLt ho).2; omega, fun hm => by have := (hI.kin k hm).2; omega⟩
structure Stq (base : Nat) (F : List Nat) (P : World → Prop) : Prop where
 keep : ∀ w w' G, P w → Touch G w w' → (∀ q, q ∈ F → q ∉ G) → (∀ q, q ∈ G → base ≤ q) → P w'
 lt : ∀ w, P w → ∀ q, q ∈ F → q < w.heap.size
structure Px (W w : World) (base bb n : Nat) (F : List Nat) (P : World → Prop) (L : List (Option (Value × List Int))) : Prop where
 ex : ∃ f xs K ms ds, Kg.Bok w base bb f xs K ms ds n n (2 * n) 0 ∧ Sp w base bb f K L F
 s : Stq base F P
 p : P w
 l : ∀ q, q ∈ F → base ≤ q
 hb : base ≤ w.heap.size
 be : Below base W w
section
variable {W w w' : World} {base bb n : Nat} {F F' : List Nat} {P P' : World → Prop} {L : List (Option (Value × List Int))}
theorem Px.step (h : Px W w base bb n F P L) (hs : Stq base F' P') (hp : P' w') (ht : Touch F w w') (hn : Kg.Newer w.heap.size F F') : Px W w' base bb n F' P' L := by
 obtain ⟨f, xs, K, ms, ds, h1, h2⟩ := h.ex
 exact ⟨⟨f, xs, K, ms, ds, bok_touch h1 ht.kg (fun k hk => (h2.ff k hk).2), h2.more h1.iv ht.kg hn (hs.lt _ hp)⟩, hs, hp, fun q hq => (hn q hq).elim (h.l q) (fun h9 => Nat.le_trans h.hb h9), Nat.le_trans h.hb ht.size, h.be.trans (ht.below h.hb h.l)⟩
theorem Px.below (h : Px W w base bb n F P L) (hb : Below w.heap.size w w') : Px W w' base bb n F P L :=
 h.step h.s (h.s.keep _ _ [] h.p (Touch.of_below hb []) (by simp) (by simp)) (Touch.of_below hb F) (Kg.Newer.refl _ _)
theorem Px.newB (h : Px W w base bb n F P L) (hb : Below w.heap.size w w') {v : Value} {l : List Int} (hv : Kg.Row w' w.heap.size v l) (i : Nat) : Px W w' base bb n F P (L.set i (some (v, l))) := by
 obtain ⟨f, xs, K, ms, ds, h1, h2⟩ := h.ex
 have h' := h.below hb
 exact ⟨⟨f, xs, K, ms, ds, bok_touch h1 (Kg.Touch.of_below hb []) (fun k hk => by cases hk), h2.new h1.iv (Kg.Touch.of_below hb _) hv i⟩, h'.s, h'.p, h'.l, h'.hb, h'.be⟩
theorem Px.row (h : Px W w base bb n F P L) {i : Nat} {v : Value} {l : List Int} (hi : L[i]? = some (some (v, l))) : Kg.Row w base v l := by
 obtain ⟨f, xs, K, ms, ds, h1, h2⟩ := h.ex
 exact h2.row i v l hi
theorem Px.ints (h : Px W w base bb n F P L) (hn : n < 400000000) {i : Nat} {v : Value} {l : List Int} (hi : L[i]? = some (some (v, l))) (hl : l.length ≤ 10000000000000) (mark : Int) (m0 : 0 ≤ mark) (m1 : mark ≤ 1000000000000000) :
  Calls Tryz.prog 35 #[.pointer (some ⟨bb, 0, none⟩), v, .int .i64 mark] w fun e w' => e = .returned (.tuple #[]) ∧ Px W w' base bb (n + 1) F P (L.set i none) := by
 obtain ⟨f, xs, K, ms, ds, h1, h2⟩ := h.ex
 refine (Kg.ints_any h1 (by omega) h.hb v l (h2.row i v l hi) hl (fun g hg => (h2.fo i v l hi g hg).1.2) mark m0 m1).mono ?_
 rintro e w' ⟨rfl, f', xs', K', ms', ds', hB, hE⟩
 obtain ⟨q1, q2⟩ := h2.ints hi hE
 obtain ⟨G, t, hG⟩ := hE.t
 have nG : ∀ q, q ∈ F → q ∉ G := fun q hq hm => by
  rcases hG q hm with h3 | h3
  ·exact (h2.ff q hq).2.1 h3
  ·rcases List.mem_append.1 h3 with h3 | h3
   ·exact (h2.fo i v l hi q (by simpa using h3)).2 hq
   ·exact (h2.ff q hq).2.2 h3
 have bG : ∀ k, k ∈ G → base ≤ k := fun k hk => by
  rcases hG k hk with h3 | h3
  ·exact (h1.iv.ownLt h3).1
  ·rcases List.mem_append.1 h3 with h3 | h3
   ·exact ((h2.row i v l hi).lt k (by simpa using h3)).1
   ·exact (h1.iv.kin k h3).1
 exact ⟨rfl, ⟨f', xs', K', ms', ds', by rw [show 2 * (n + 1) = 2 * n + 2 by omega]; exact hB, q1⟩, h.s, h.s.keep _ _ _ h.p (touch_of_kg t) nG bG, h.l, Nat.le_trans h.hb t.size, h.be.trans (t.below h.hb bG)⟩
theorem Px.hold (h : Px W w base bb n F P L) (hn : n < 400000000) :
  Calls Tryz.prog 34 #[.pointer (some ⟨bb, 0, none⟩)] w fun e w' => e = .returned (.bool true) ∧ Px W w' base bb n F P L := by
 obtain ⟨f, xs, K, ms, ds, h1, h2⟩ := h.ex
 have hl := h1.len
 refine (Kg.hold_any h1.st h1.f1 (by omega) (by omega)).mono ?_
 rintro e w' ⟨rfl, hb⟩
 exact ⟨rfl, h.below hb⟩
theorem Px.drop (h : Px W w base bb n F P L) (i : Nat) : Px W w base bb n F P (L.set i none) := by
 obtain ⟨f, xs, K, ms, ds, h1, h2⟩ := h.ex
 exact ⟨⟨f, xs, K, ms, ds, h1, h2.set_none i⟩, h.s, h.p, h.l, h.hb, h.be⟩
end
end Go.Proofs.YtlkengnefhhppaaGreatDoor
namespace Go.Proofs.YtlkengnefhhppaaGreatDoor
open Go.RowKit Go.Shelf
abbrev pF (sb b g mb : Nat) (lv : Value) : List Nat := sb :: mb :: b :: g :: lv.ownBlock.toList
abbrev dF (vb rb : Nat) (rg : Nat → Nat) (rl : Value) : List Nat := vb :: (rft rb rg ++ rl.ownBlock.toList)
theorem mem_dF {vb rb q : Nat} {rg : Nat → Nat} {rl : Value} : q ∈ dF vb rb rg rl ↔ q = vb ∨ q ∈ rft rb rg ∨ rl.ownBlock = some q := by
 rw [List.mem_cons, List.mem_append, Option.mem_toList]
def Own2 (N : Nat) (lv lv' : Value) : Prop := ∀ q, lv'.ownBlock = some q → lv.ownBlock = some q ∨ N ≤ q
section
variable {w1 w w' : World} {n1 sb b g mb n : Nat} {lv : Value} {c : Cfg} {x : Tps} {sw : Bool} {ws : Nat → Int} {th : List Tng} {l : List Int} {S : Int → Bool} {vb rb : Nat} {rg : Nat → Nat} {rl : Value}
theorem Rm.lo_pF (H : Rm w1 n1 w sb b g mb lv c x sw ws th l n S) : ∀ q, q ∈ pF sb b g mb lv → n1 ≤ q := fun q hq => by
 simp only [List.mem_cons, Option.mem_toList] at hq
 rcases hq with rfl | rfl | rfl | rfl | hq
 ·exact H.ls
 ·exact H.lm
 ·exact H.bq.lb
 ·exact H.bq.lg
 ·exact H.lv_ q hq
theorem Rm.lt_pF (H : Rm w1 n1 w sb b g mb lv c x sw ws th l n S) : ∀ q, q ∈ pF sb b g mb lv → q < w.heap.size := fun q hq => by
 simp only [List.mem_cons, Option.mem_toList] at hq
 rcases hq with rfl | rfl | rfl | rfl | hq
 ·exact H.rs.lt
 ·exact H.rs.map.lt
 ·exact H.bq.ax.ar.own.lt
 ·exact H.bq.ax.ar.row.lt
 ·exact row_lt H.rs.row q hq
theorem Rm.hsz (H : Rm w1 n1 w sb b g mb lv c x sw ws th l n S) : n1 ≤ w.heap.size := Nat.le_trans H.hn H.bq.be.size
theorem Rm.touch (H : Rm w1 n1 w sb b g mb lv c x sw ws th l n S) {G : List Nat} (t : Touch G w w') (hG : ∀ q, q ∈ pF sb b g mb lv → q ∉ G) (hn : ∀ q, q ∈ G → n1 ≤ q) : Rm w1 n1 w' sb b g mb lv c x sw ws th l n S :=
 ⟨⟨H.bq.ax.touch t (hG b (by simp)) (hG g (by simp)) (fun h => by have := hn _ h; have := H.bq.t0; omega) (fun h => by have := hn _ h; have := H.bq.t1; omega), H.bq.be.trans (t.below H.hsz hn), H.bq.lb, H.bq.lg, H.bq.t0, H.bq.t1⟩,
  H.rs.touch t (hG sb (by simp)) (hG mb (by simp)) (fun q hq => hG q (by simp [hq])), H.ls, H.lm, H.lv_, H.hn⟩
theorem Dx.lt_dF (H : Dx w vb rb rg rl c x sw ws th l) : ∀ q, q ∈ dF vb rb rg rl → q < w.heap.size := fun q hq => by
 rcases mem_dF.1 hq with rfl | hq | hq
 ·exact H.lt
 ·exact H.rx.ra.lt q hq
 ·exact row_lt H.row q hq
theorem Dx.touch (H : Dx w vb rb rg rl c x sw ws th l) {G : List Nat} (t : Touch G w w') (hG : ∀ q, q ∈ dF vb rb rg rl → q ∉ G) : Dx w' vb rb rg rl c x sw ws th l :=
 ⟨⟨H.rx.ra.touch t (fun q hq => hG q (mem_dF.2 (.inr (.inl hq)))), H.rx.hp⟩, (t.block vb H.lt (hG vb (mem_dF.2 (.inl rfl)))).trans H.own, row_keep H.row (fun q hq => t.block q (row_lt H.row q hq) (hG q (mem_dF.2 (.inr (.inr hq)))))⟩
end
structure Bo6 (w1 : World) (n1 : Nat) (w : World) (sb b g mb : Nat) (lv : Value) (vb rb : Nat) (rg : Nat → Nat) (rl : Value) (c : Cfg) (x : Tps) (sw : Bool) (ws : Nat → Int) (th : List Tng) (l : List Int) (n : Nat) : Prop where
 rm : Rm w1 n1 w sb b g mb lv c x sw ws th l n (fun a => decide (a ∈ l))
 dx : Dx w vb rb rg rl c x sw ws th l
 ap : ∀ q, q ∈ pF sb b g mb lv → q ∉ dF vb rb rg rl
 lo : ∀ q, q ∈ dF vb rb rg rl → n1 ≤ q
 tn : ∀ a, a ∈ l → ∃ T, T ∈ th ∧ T.at_ = a
 nd : l.Nodup
section
variable {w1 w w' wa wb wc : World} {n1 sb b g mb n n' : Nat} {lv lv' : Value} {c : Cfg} {x x' : Tps} {sw sw' : Bool} {ws ws' : Nat → Int} {th th' : List Tng} {l l' : List Int} {vb rb : Nat} {rg : Nat → Nat} {rl rl' : Value}
theorem Bo6.touch (B : Bo6 w1 n1 w sb b g mb lv vb rb rg rl c x sw ws th l n) {G : List Nat} (t : Touch G w w') (hG : ∀ q, q ∈ pF sb b g mb lv ++ dF vb rb rg rl → q ∉ G) (hn : ∀ q, q ∈ G → n1 ≤ q) : Bo6 w1 n1 w' sb b g mb lv vb rb rg rl c x sw ws th l n :=
 ⟨B.rm.touch t (fun q hq => hG q (List.mem_append.2 (.inl hq))) hn, B.dx.touch t (fun q hq => hG q (List.mem_append.2 (.inr hq))), B.ap, B.lo, B.tn, B.nd⟩
theorem Bo6.below (B : Bo6 w1 n1 w sb b g mb lv vb rb rg rl c x sw ws th l n) (h : Below w.heap.size w w') : Bo6 w1 n1 w' sb b g mb lv vb rb rg rl c x sw ws th l n :=
 B.touch (Touch.of_below h []) (by simp) (by simp)
theorem Bo6.lts (B : Bo6 w1 n1 w sb b g mb lv vb rb rg rl c x sw ws th l n) : ∀ q, q ∈ pF sb b g mb lv ++ dF vb rb rg rl → q < w.heap.size := fun q hq => by
 rcases List.mem_append.1 hq with h | h
 ·exact B.rm.lt_pF q h
 ·exact B.dx.lt_dF q h
theorem Bo6.los (B : Bo6 w1 n1 w sb b g mb lv vb rb rg rl c x sw ws th l n) : ∀ q, q ∈ pF sb b g mb lv ++ dF vb rb rg rl → n1 ≤ q := fun q hq => by
 rcases List.mem_append.1 hq with h | h
 ·exact B.rm.lo_pF q h
 ·exact B.lo q h
theorem Own2.mem {N : Nat} {lv lv' : Value} (h : Own2 N lv lv') {q : Nat} (hq : lv'.ownBlock = some q) : lv.ownBlock = some q ∨ N ≤ q := h q hq
theorem Own2.of {N : Nat} {lv lv' : Value} (h : lv'.ownBlock = lv.ownBlock ∨ ∃ y, lv'.ownBlock = some y ∧ N ≤ y) : Own2 N lv lv' := fun q hq => by
 rcases h with h | ⟨y, h1, h2⟩
 ·exact .inl (by rw [← h]; exact hq)
 ·rw [h1] at hq
  simp at hq
  exact .inr (by omega)
theorem own2_pF {N : Nat} {lv lv' : Value} (h : Own2 N lv lv') {q : Nat} (hq : q ∈ pF sb b g mb lv') : q ∈ pF sb b g mb lv ∨ (lv'.ownBlock = some q ∧ N ≤ q) := by
 simp only [List.mem_cons, Option.mem_toList] at hq ⊢
 rcases hq with h1 | h1 | h1 | h1 | h1
 ·exact .inl (.inl h1)
 ·exact .inl (.inr (.inl h1))
 ·exact .inl (.inr (.inr (.inl h1)))
 ·exact .inl (.inr (.inr (.inr (.inl h1))))
 ·rcases h.mem h1 with h2 | h2
  ·exact .inl (.inr (.inr (.inr (.inr h2))))
  ·exact .inr ⟨h1, h2⟩
theorem own2_dF {N : Nat} {rl rl' : Value} (h : Own2 N rl rl') {q : Nat} (hq : q ∈ dF vb rb rg rl') : q ∈ dF vb rb rg rl ∨ (rl'.ownBlock = some q ∧ N ≤ q) := by
 rcases mem_dF.1 hq with h1 | h1 | h1
 ·exact .inl (mem_dF.2 (.inl h1))
 ·exact .inl (mem_dF.2 (.inr (.inl h1)))
 ·rcases h.mem h1 with h2 | h2
  ·exact .inl (mem_dF.2 (.inr (.inr h2)))
  ·exact .inr ⟨h1, h2⟩
theorem Bo6.made (B : Bo6 w1 n1 w sb b g mb lv vb rb rg rl c x sw ws th l n) (tp : Touch (pF sb b g mb lv) w wa) (R : Rm w1 n1 wa sb b g mb lv' c x' sw' ws' th' l' n' (fun a => decide (a ∈ l'))) (ol : Own2 w.heap.size lv lv') (lb : Below wa.heap.size wa wb) (td : Touch (dF vb rb rg rl) wb wc) (D : Dx wc vb rb rg rl' c x' sw' ws' th' l') (or_ : Own2 wb.heap.size rl rl') (tn : ∀ a, a ∈ l' → ∃ T, T ∈ th' ∧ T.at_ = a) (nd : l'.Nodup) :
  Bo6 w1 n1 wc sb b g mb lv' vb rb rg rl' c x' sw' ws' th' l' n' ∧ Touch (pF sb b g mb lv ++ dF vb rb rg rl) w wc ∧ Kg.Newer w.heap.size (pF sb b g mb lv ++ dF vb rb rg rl) (pF sb b g mb lv' ++ dF vb rb rg rl') := by
 have s1 := tp.size
 have s2 := lb.size
 have s3 := td.size
 have hsz := B.rm.hsz
 have apl : ∀ q, q ∈ pF sb b g mb lv' → q ∉ dF vb rb rg rl := fun q hq hm => by
  rcases own2_pF ol hq with h | ⟨h, h2⟩
  ·exact B.ap q h hm
  ·have := B.dx.lt_dF q hm; omega
 have Rb := R.below lb
 have Rc := Rb.touch td (fun q hq => apl q hq) (fun q hq => B.lo q hq)
 refine ⟨⟨Rc, D, fun q hq hm => ?_, fun q hq => ?_, tn, nd⟩, ?_, fun q hq => ?_⟩
 ·rcases own2_dF or_ hm with h | ⟨h, h2⟩
  ·exact apl q hq h
  ·have := R.lt_pF q hq; omega
 ·rcases own2_dF or_ hq with h | ⟨h, h2⟩
  ·exact B.lo q h
  ·omega
 ·exact ((tp.wide (fun y hy => List.mem_append.2 (.inl hy))).trans (Touch.of_below lb _)).trans (td.wide (fun y hy => List.mem_append.2 (.inr hy)))
 ·rcases List.mem_append.1 hq with h | h
  ·rcases own2_pF ol h with h2 | h2
   ·exact .inl (List.mem_append.2 (.inl h2))
   ·exact .inr h2.2
  ·rcases own2_dF or_ h with h2 | h2
   ·exact .inl (List.mem_append.2 (.inr h2))
   ·exact .inr (by omega)
theorem Bo6.dxat (B : Bo6 w1 n1 w sb b g mb lv vb rb rg rl c x sw ws th l n) (tp : Touch (pF sb b g mb lv) w wa) (lb : Below wa.heap.size wa wb) : Dx wb vb rb rg rl c x sw ws th l :=
 (B.dx.touch tp (fun q hq hm => B.ap q hm hq)).below lb
def Nx6 (w1 : World) (n1 : Nat) (w : World) (sb b g mb : Nat) (lv : Value) (vb rb : Nat) (rg : Nat → Nat) (rl : Value) (c : Cfg) (x : Tps) (sw : Bool) (th : List Tng) (n m : Nat) (wc : World) : Prop :=
 ∃ lv' rl' ws' th' l' n', Bo6 w1 n1 wc sb b g mb lv' vb rb rg rl' c x sw ws' th' l' n' ∧ Touch (pF sb b g mb lv ++ dF vb rb rg rl) w wc ∧ Kg.Newer w.heap.size (pF sb b g mb lv ++ dF vb rb rg rl) (pF sb b g mb lv' ++ dF vb rb rg rl') ∧ n' ≤ n + m ∧ ∀ T, T ∈ th → ∃ U, U ∈ th' ∧ U.at_ = T.at_
theorem Nx6.same (B : Bo6 w1 n1 w sb b g mb lv vb rb rg rl c x sw ws th l n) (m : Nat) (h : Below w.heap.size w w') : Nx6 w1 n1 w sb b g mb lv vb rb rg rl c x sw th n m w' :=
 ⟨lv, rl, ws, th, l, n, B.below h, Touch.of_below h _, Kg.Newer.refl _ _, by omega, fun T hT => ⟨T, hT, rfl⟩⟩
theorem set_ats {th : List Tng} {i : Nat} {T U : Tng} (hi : th[i]? = some T) (hU : U.at_ = T.at_) : ∀ V, V ∈ th → ∃ X, X ∈ th.set i U ∧ X.at_ = V.at_ := fun V hV => by
 obtain ⟨j, hj⟩ := List.getElem?_of_mem hV
 have hil := (List.getElem?_eq_some_iff.1 hi).1
 by_cases e : j = i
 ·subst e
  rw [hi] at hj
  simp at hj
  subst hj
  exact ⟨U, List.mem_of_getElem? (by rw [List.getElem?_set, if_pos rfl, if_pos hil]), hU⟩
 ·exact ⟨V, List.mem_of_getElem? (by rw [List.getElem?_set, if_neg (fun h => e h.symm)]; exact hj), rfl⟩
theorem fault_target {S : Int → Bool} (H : Rm w1 n1 w sb b g mb lv c x sw ws th l n S) {T : Tng} (hT : T ∈ th) (f : Nat) (hf : f < T.ps.length) (z : Int) (hz : z ≠ 0) (hzn : ¬ At c x ws z) : Calls Tryz.prog 47 #[.pointer (some ⟨sb, 0, none⟩), .int .i64 T.at_, .int .i64 f, .int .i64 z] w fun e w' => e = .returned (.int .i64 62) ∧ Below w.heap.size w w' := by
 have k0 : w.cell? ⟨sb, 0, none⟩ = some (.pointer (some ⟨b, 0, none⟩)) := H.rs.cell 0
 have hh := H.bq.ax.head hT
 have HR : Hid (Rm w1 n1 w sb b g mb lv c x sw ws th l n S) := H
 have hpn := H.bq.ax.hl.psn T hT
 have hfI : ¬ (f : Int) < 0 := by omega
 have hfp : ¬ T.p ≤ (f : Int) := by omega
 have gfp : decide (T.p ≤ (f : Int)) = false := decide_eq_false hfp
 clear H hT hpn
 go_enter Tryz.func47, Tryz.ntmps47
 go_wp2_with fail
 refine hh.mono ?_
 rintro e w2 ⟨rfl, l2⟩
 clear hh k0
 go_upto_region 2 with fail
 have l3 := Below.alloc l2 l2.size (.cells (hcells T.s T.k T.p T.r T.a T.t T.h) 38)
 have hy : (w2.alloc (.cells (hcells T.s T.k T.p T.r T.a T.t T.h) 38)).cell? ⟨w2.heap.size, 2, none⟩ = some (.int .i64 T.p) := cell_of_row _ _ 2 _ _ _ (heap_alloc_new w2 (.cells (hcells T.s T.k T.p T.r T.a T.t T.h) 38 (0, 0)))
 generalize w2.alloc (.cells (hcells T.s T.k T.p T.r T.a T.t T.h) 38) = w3 at *
 generalize w2.heap.size = R at *
 clear l2
 have hst := stands_not (HR.out.below l3) z hzn
 have hne : (z == 0) = false := by simpa using hz
 have hne2 : (z != 0) = true := by simpa using hz
 clear hz hzn
 go_wp2_with fail
 refine hst.mono ?_
 rintro e w4 ⟨rfl, l4⟩
 have l5 := l3.trans (l4.mono l3.size)
 clear hst l4 l3 hy
 go_wp2
 go_ret
 exact ⟨rfl, l5⟩
theorem Bo6.store_yes (B : Bo6 w1 n1 w sb b g mb lv vb rb rg rl c x sw ws th l n) (T : Tng) (hT : T ∈ th) (f : Nat) (hf : f < T.ps.length) (z : Int) (hz : z = 0 ∨ ∃ U, U ∈ th ∧ U.at_ = z) (hl : l.length ≤ 262145) (hn : n ≤ 576460752303423488) :
  Calls Tryz.prog 12 #[.pointer (some ⟨sb, 0, none⟩), .int .i64 T.at_, .int .i64 f, .int .i64 z] w fun e wa => ∃ E : Int, e = .returned (.int .i64 E) ∧ Touch (pF sb b g mb lv) w wa ∧ ∀ wb, Below wa.heap.size wa wb → Calls Tryz.prog 59 #[.pointer (some ⟨vb, 0, none⟩), .int .i64 T.at_, .int .i64 f, .int .i64 z] wb fun e wc => e = .returned (.int .i64 E) ∧ Nx6 w1 n1 w sb b g mb lv vb rb rg rl c x sw th n 1 wc := by
 obtain ⟨i, hi⟩ := List.getElem?_of_mem hT
 refine (store_full B.rm i T hi f hf z hz (by omega) hn).mono ?_
 rintro e wa ⟨rfl, ta, lv', ws', ol, c1, c2⟩
 refine ⟨0, rfl, ta, fun wb lb => ?_⟩
 refine (r6Store_yes (B.dxat ta lb) i T hi f hf z hz (by omega)).mono ?_
 rintro e wc ⟨rfl, tc, rl', or_, hs⟩
 have tc' : Touch (dF vb rb rg rl) wb wc := tc.wide (fun y hy => by
  rw [List.mem_cons, List.mem_append, Option.mem_toList] at hy
  rcases hy with h | h | h
  ·exact mem_dF.2 (.inl h)
  ·exact mem_dF.2 (.inr (.inr h))
  ·exact mem_dF.2 (.inr (.inl h)))
 refine ⟨rfl, ?_⟩
 unfold Sto6 at hs
 cases hst : stl c sw l T.at_ z
 ·rw [hst, if_neg (by simp)] at hs
  obtain ⟨e1, R⟩ := c1 hst
  subst e1
  have hat := set_ats hi (U := { T with ps := T.ps.set f z }) rfl
  obtain ⟨q1, q2, q3⟩ := B.made ta R (Own2.of ol) lb tc' hs or_ (fun a ha => by
   obtain ⟨V, h1, h2⟩ := B.tn a ha
   obtain ⟨X, h3, h4⟩ := hat V h1
   exact ⟨X, h3, h4.trans h2⟩) B.nd
  exact ⟨lv', rl', _, _, l, n, q1, q2, q3, by omega, hat⟩
 ·rw [hst, if_pos rfl] at hs
  obtain ⟨e1, R⟩ := c2 hst
  subst e1
  have hat := set_ats hi (U := { T with ps := T.ps.set f z, h := true }) rfl
  have hnm : T.at_ ∉ l := fun hm => by unfold stl at hst; simp [hm] at hst
  obtain ⟨q1, q2, q3⟩ := B.made ta R (Own2.of ol) lb tc' hs or_ (fun a ha => by
   rcases List.mem_append.1 ha with ha | ha
   ·obtain ⟨V, h1, h2⟩ := B.tn a ha
    obtain ⟨X, h3, h4⟩ := hat V h1
    exact ⟨X, h3, h4.trans h2⟩
   ·simp at ha
    obtain ⟨X, h3, h4⟩ := hat T hT
    exact ⟨X, h3, by rw [h4, ha]⟩) (by
   rw [List.nodup_append]
   refine ⟨B.nd, by simp, fun a ha b hb => ?_⟩
   simp at hb
   subst hb
   exact fun e => hnm (e ▸ ha))
  exact ⟨lv', rl', _, _, l ++ [T.at_], n + 1, q1, q2, q3, by omega, hat⟩
theorem Bo6.store (B : Bo6 w1 n1 w sb b g mb lv vb rb rg rl c x sw ws th l n) (a f z : Int) (ha : Adr c x ws th a) (hz : Adr c x ws th z) (hn : n ≤ 576460752303423488) :
  Calls Tryz.prog 12 #[.pointer (some ⟨sb, 0, none⟩), .int .i64 a, .int .i64 f, .int .i64 z] w fun e wa => ∃ E : Int, e = .returned (.int .i64 E) ∧ Touch (pF sb b g mb lv) w wa ∧ ∀ wb, Below wa.heap.size wa wb → Calls Tryz.prog 59 #[.pointer (some ⟨vb, 0, none⟩), .int .i64 a, .int .i64 f, .int .i64 z] wb fun e wc => e = .returned (.int .i64 E) ∧ Nx6 w1 n1 w sb b g mb lv vb rb rg rl c x sw th n 1 wc := by
 have hl : l.length ≤ 262145 := B.dx.rx.hp.few w l B.nd B.tn
 have quiet : ∀ (E : Int), E ≠ 0 → (Calls Tryz.prog 47 #[.pointer (some ⟨sb, 0, none⟩), .int .i64 a, .int .i64 f, .int .i64 z] w fun e w' => e = .returned (.int .i64 E) ∧ Below w.heap.size w w') → (∀ wb, Dx wb vb rb rg rl c x sw ws th l → Calls Tryz.prog 59 #[.pointer (some ⟨vb, 0, none⟩), .int .i64 a, .int .i64 f, .int .i64 z] wb fun e wc => e = .returned (.int .i64 E) ∧ Below wb.heap.size wb wc) →
   Calls Tryz.prog 12 #[.pointer (some ⟨sb, 0, none⟩), .int .i64 a, .int .i64 f, .int .i64 z] w fun e wa => ∃ E : Int, e = .returned (.int .i64 E) ∧ Touch (pF sb b g mb lv) w wa ∧ ∀ wb, Below wa.heap.size wa wb → Calls Tryz.prog 59 #[.pointer (some ⟨vb, 0, none⟩), .int .i64 a, .int .i64 f, .int .i64 z] wb fun e wc => e = .returned (.int .i64 E) ∧ Nx6 w1 n1 w sb b g mb lv vb rb rg rl c x sw th n 1 wc := by
  intro E hE h1 h2
  refine (store_bad a f z E hE h1).mono ?_
  rintro e wa ⟨rfl, la⟩
  refine ⟨E, rfl, Touch.of_below la _, fun wb lb => ?_⟩
  have lab := la.trans (lb.mono la.size)
  refine (h2 wb (B.dx.below lab)).mono ?_
  rintro e wc ⟨rfl, lc⟩
  exact ⟨rfl, Nx6.same B 1 (lab.trans (lc.mono lab.size))⟩
 rcases ha with ⟨T, hT, rfl⟩ | ⟨h1, h2⟩
 ·by_cases hf : 0 ≤ f ∧ f < T.ps.length
  ·obtain ⟨f', rfl⟩ : ∃ f' : Nat, f = f' := ⟨f.toNat, by omega⟩
   have hf' : f' < T.ps.length := by omega
   rcases hz with hz | ⟨hz1, hz2⟩
   ·have hzz : z = 0 ∨ ∃ U, U ∈ th ∧ U.at_ = z := .inr hz
    exact Bo6.store_yes B T hT f' hf' z hzz hl hn
   ·by_cases hz0 : z = 0
    ·exact Bo6.store_yes B T hT f' hf' z (.inl hz0) hl hn
    ·exact quiet 62 (by decide) (fault_target B.rm hT f' hf' z hz0 hz2) (fun wb D => r6Store_target D hT f' hf' z hz0 hz2)
  ·exact quiet 61 (by decide) (fault_field B.rm hT f hf z) (fun wb D => r6Store_field D hT f hf z)
 ·exact quiet 60 (by decide) (fault_not B.rm a h2 f z) (fun wb D => r6Store_not D a h2 f z)
end
end Go.Proofs.YtlkengnefhhppaaGreatDoor
