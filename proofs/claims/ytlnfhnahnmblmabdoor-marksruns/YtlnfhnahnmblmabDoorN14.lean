/-
  A desk with its slides in memory.
-/
import Derived.Test.YtlnfhnahnmblmabDoorN13
set_option linter.unusedVariables false
set_option maxRecDepth 100000
namespace Go.Proofs.YtlnfhnahnmblmabDoor
open Go.RowKit Go.Shelf

/-- A slide that is kept, and the document's beside it. -/
structure Sr2 where
  s : Nat
  kb : Nat
  kg : Nat
  q : Nat
  t : Nat
  base : Nat
  e : Nat
  N : Nat → Bool
  p : Option Addr
  C : Nat

/-- A list in a block outside F. -/
def Lsn (F : List Nat) (w : World) (p : Option Addr) (l : List Int) : Prop := ∀ i u, l[i]? = some u → ∃ g, g ∉ F ∧ p = some ⟨g, 0, none⟩ ∧ w.cell? ⟨g, i, none⟩ = some (.int .i64 u)

structure Kp (w : World) (F : List Nat) (x : Sr2) : Prop where
  sl : Sl w x.s x.kb x.kg x.q x.base x.e x.N
  own : w.rowIs x.t 80 2 (rsf x.base (.slice x.p (rk x.N x.e) x.C))
  ls : Lsn F w x.p (gos x.N x.e)
  cap : rk x.N x.e ≤ x.C
  s : x.s ∉ F
  kb : x.kb ∉ F
  kg : x.kg ∉ F
  q : x.q ∉ F
  t : x.t ∉ F

theorem Kp.rs {w : World} {F : List Nat} {x : Sr2} (h : Kp w F x) : Rs w x.t x.base x.e 0 x.N x.p x.C :=
  ⟨h.own, fun i u hu => by
    obtain ⟨g, -, h2, h3⟩ := h.ls i u hu
    exact ⟨g, Nat.zero_le _, h2, h3⟩, h.cap, h.sl.base, h.sl.kept.le, h.sl.kept.out⟩

theorem Kp.touch {w w' : World} {F F' : List Nat} {x : Sr2} (h : Kp w F x) (t : Touch F w w') (hn : Newer w.heap.size F F') : Kp w' F' x :=
  ⟨h.sl.touch t h.s h.kb h.kg h.q, h.own.of_block (t.block _ h.own.lt h.t), fun i u hu => by
    obtain ⟨g, h1, h2, h3⟩ := h.ls i u hu
    exact ⟨g, hn.not (World.block_lt_of_cell? _ _ h3) h1, h2, t.cell h3 h1⟩, h.cap,
    hn.not h.sl.own.lt h.s, hn.not h.sl.kept.own.lt h.kb, hn.not h.sl.kept.row.lt h.kg, hn.not h.sl.row.lt h.q, hn.not h.own.lt h.t⟩

theorem Kp.below {w w' : World} {F : List Nat} {x : Sr2} (h : Kp w F x) (l : Below w.heap.size w w') : Kp w' F x := h.touch (Touch.of_below l F) (Newer.refl _ _)

theorem own_touch {B : Nat} {w w' : World} {e : TypeId} {v : Value} {n : Nat} {xs : List Value} {F : List Nat} (h : w.ownsRow B e 1 v n xs) (t : Touch F w w') (hn : ∀ k, v.ownBlock = some k → k ∉ F) : w'.ownsRow B e 1 v n xs := by
  have hlt := own_lt h
  obtain ⟨hl, h0 | ⟨g, cap, cur, rfl, hge, hh, hr⟩⟩ := h
  · exact ⟨hl, .inl h0⟩
  · exact ⟨hl, .inr ⟨g, cap, cur, rfl, hge, (t.block g (hlt g rfl) (hn g rfl)).trans hh, hr⟩⟩

theorem own_slice {B : Nat} {w : World} {e : TypeId} {v : Value} {n : Nat} {xs : List Value} (h : w.ownsRow B e 1 v n xs) : ∃ a cap, v = .slice a n cap := by
  obtain ⟨hl, ⟨h0, h1⟩ | ⟨g, cap, cur, rfl, _⟩⟩ := h
  · subst h1; exact ⟨_, _, h0⟩
  · exact ⟨_, _, rfl⟩

theorem own_cell {B : Nat} {w : World} {e : TypeId} {v : Value} {n : Nat} {xs : List Value} (h : w.ownsRow B e 1 v n xs) (hn : 0 < n) : ∃ g cap, v = .slice (some ⟨g, 0, none⟩) n cap ∧ n ≤ cap ∧ ∀ i u, xs[i]? = some u → w.cell? ⟨g, i, none⟩ = some u := by
  obtain ⟨hl, ⟨h0, h1⟩ | ⟨g, cap, cur, rfl, hge, hh, hc, -, hs, ht⟩⟩ := h
  · omega
  · refine ⟨g, cap, rfl, hc, fun i u hu => ?_⟩
    rw [cell_of_row _ _ i _ _ _ hh]
    have hil := (List.getElem?_eq_some_iff.1 hu).1
    rw [← ht, List.getElem?_take_of_lt (by omega)] at hu
    simpa using hu

def sps (L : List Sr2) : List Value := L.map fun x => .pointer (some ⟨x.s, 0, none⟩)
def tps (L : List Sr2) : List Value := L.map fun x => .pointer (some ⟨x.t, 0, none⟩)

/-- The blocks that a desk's calls may turn. -/
def dfp (d b g r h : Nat) (vs vt : Value) : List Nat := [d, b, g, r, h] ++ (vs.ownBlock.toList ++ vt.ownBlock.toList)

/-- A desk, begun at W0. -/
structure Dk (W0 w : World) (d b g r h n : Nat) (M : Nat → Bool) (vs vt : Value) (xs ys : List Value) (L : List Sr2) : Prop where
  own : w.rowIs d 47 4 (df b r vs vt)
  mp : Mp w b g n M
  rm : Rm w r h n M
  rs : w.ownsRow W0.heap.size 71 1 vs xs.length xs
  rt : w.ownsRow W0.heap.size 74 1 vt ys.length ys
  kp : ∀ x ∈ L, Kp w (dfp d b g r h vs vt) x
  nd : (dfp d b g r h vs vt).Nodup
  ge : ∀ k ∈ dfp d b g r h vs vt, W0.heap.size ≤ k
  be : Below W0.heap.size W0 w

section
variable {W0 w w' : World} {d b g r h n : Nat} {M : Nat → Bool} {vs vt : Value} {xs ys : List Value} {L : List Sr2}

theorem Dk.below (x : Dk W0 w d b g r h n M vs vt xs ys L) (l : Below w.heap.size w w') : Dk W0 w' d b g r h n M vs vt xs ys L :=
  ⟨x.own.of_block (l.block _ x.own.lt), x.mp.below l, x.rm.below l, own_below2 x.rs l, own_below2 x.rt l, fun y hy => (x.kp y hy).below l, x.nd, x.ge, x.be.trans (l.mono x.be.size)⟩

theorem Dk.laid (x : Dk W0 w d b g r h n M vs vt xs ys L) (hL : Laid W0) : Laid w := hL.below x.be

/-- Both maps turned. -/
theorem Dk.two {w1 w2 : World} {M' : Nat → Bool} (x : Dk W0 w d b g r h n M vs vt xs ys L) (t1 : Touch [g] w w1) (m1 : Mp w1 b g n M') (t2 : Touch [h] w1 w2) (r2 : Rm w2 r h n M') : Dk W0 w2 d b g r h n M' vs vt xs ys L := by
  have nd := x.nd
  have f1 : Touch (dfp d b g r h vs vt) w w1 := t1.wide (fun k hk => .inl (by simp [dfp] at hk ⊢; simp [hk]))
  have f2 : Touch (dfp d b g r h vs vt) w1 w2 := t2.wide (fun k hk => .inl (by simp [dfp] at hk ⊢; simp [hk]))
  have ff := f1.trans f2
  simp only [dfp, List.cons_append, List.nil_append, List.nodup_cons, List.mem_cons, not_or] at nd
  obtain ⟨⟨db, dg, dr, dh, dq⟩, ⟨bg, br, bh, bq⟩, ⟨gr, gh, gq⟩, ⟨rh, rq⟩, hq, hnd⟩ := nd
  have os : ∀ k, vs.ownBlock = some k → k ≠ g ∧ k ≠ h := fun k hk => ⟨fun e => gq (by subst e; simp [hk]), fun e => hq (by subst e; simp [hk])⟩
  have ot : ∀ k, vt.ownBlock = some k → k ≠ g ∧ k ≠ h := fun k hk => ⟨fun e => gq (by subst e; simp [hk]), fun e => hq (by subst e; simp [hk])⟩
  have o1 : w1.rowIs d 47 4 (df b r vs vt) := x.own.of_block (t1.block _ x.own.lt (by simp; exact dg))
  refine ⟨o1.of_block (t2.block _ o1.lt (by simp; exact dh)), m1.touch t2 (by simp; exact bh) (by simp; exact gh), r2,
    own_touch (own_touch x.rs t1 (fun k hk => by simp; exact (os k hk).1)) t2 (fun k hk => by simp; exact (os k hk).2),
    own_touch (own_touch x.rt t1 (fun k hk => by simp; exact (ot k hk).1)) t2 (fun k hk => by simp; exact (ot k hk).2),
    fun y hy => (x.kp y hy).touch ff (Newer.refl _ _), x.nd, x.ge, x.be.trans (ff.below x.be.size x.ge)⟩

theorem Dk.lts (x : Dk W0 w d b g r h n M vs vt xs ys L) : ∀ k ∈ dfp d b g r h vs vt, k < w.heap.size := by
  intro k hk
  simp only [dfp, List.cons_append, List.nil_append, List.mem_cons, List.mem_append, Option.mem_toList] at hk
  rcases hk with rfl | rfl | rfl | rfl | rfl | hk | hk
  · exact x.own.lt
  · exact x.mp.own.lt
  · exact x.mp.row.lt
  · exact x.rm.own.lt
  · exact x.rm.row.lt
  · exact own_lt x.rs k hk
  · exact own_lt x.rt k hk

/-- Both maps cleared. -/
theorem Dk.clear {w1 w2 : World} {h' : Nat} (x : Dk W0 w d b g r h n M vs vt xs ys L) (t1 : Touch [g] w w1) (m1 : Mp w1 b g n (fun _ => false)) (t2 : Touch [r] w1 w2) (hh : w1.heap.size ≤ h') (r2 : Rm w2 r h' n (fun _ => false)) : Dk W0 w2 d b g r h' n (fun _ => false) vs vt xs ys L := by
  have nd := x.nd
  have lts := x.lts
  have hs1 := t1.size
  have hs0 := x.be.size
  have f1 : Touch (dfp d b g r h vs vt) w w1 := t1.wide (fun k hk => .inl (by simp [dfp] at hk ⊢; simp [hk]))
  have f2 : Touch (dfp d b g r h vs vt) w1 w2 := t2.wide (fun k hk => .inl (by simp [dfp] at hk ⊢; simp [hk]))
  have ff := f1.trans f2
  have hnew : Newer w.heap.size (dfp d b g r h vs vt) (dfp d b g r h' vs vt) := fun k hk => by
    simp only [dfp, List.cons_append, List.nil_append, List.mem_cons, List.mem_append] at hk ⊢
    rcases hk with hk | hk | hk | hk | hk | hk
    · simp [hk]
    · simp [hk]
    · simp [hk]
    · simp [hk]
    · right; omega
    · exact .inl (.inr (.inr (.inr (.inr (.inr hk)))))
  have ge' : ∀ k ∈ dfp d b g r h' vs vt, W0.heap.size ≤ k := fun k hk => by
    rcases hnew k hk with h1 | h1
    · exact x.ge k h1
    · omega
  have nd' : (dfp d b g r h' vs vt).Nodup := by
    have hl : ∀ k, k ∈ dfp d b g r h vs vt → k ≠ h' := fun k hk e => by have := lts k hk; omega
    simp only [dfp, List.cons_append, List.nil_append, List.nodup_cons, List.mem_cons, List.mem_append, not_or] at nd hl ⊢
    obtain ⟨⟨db, dg, dr, dh, dq⟩, ⟨bg, br, bh, bq⟩, ⟨gr, gh, gq⟩, ⟨rh, rq⟩, hq, hnd⟩ := nd
    refine ⟨⟨db, dg, dr, hl d (by simp), dq⟩, ⟨bg, br, hl b (by simp), bq⟩, ⟨gr, hl g (by simp), gq⟩, ⟨hl r (by simp), rq⟩, ⟨fun e => hl h' (by simp [e]) rfl, fun e => hl h' (by simp [e]) rfl⟩, hnd⟩
  simp only [dfp, List.cons_append, List.nil_append, List.nodup_cons, List.mem_cons, List.mem_append, not_or] at nd
  obtain ⟨⟨db, dg, dr, dh, dq⟩, ⟨bg, br, bh, bq⟩, ⟨gr, gh, gq⟩, ⟨rh, rq⟩, hq, hnd⟩ := nd
  have os : ∀ k, vs.ownBlock = some k → k ≠ g ∧ k ≠ r := fun k hk => ⟨fun e => gq.1 (by subst e; simp [hk]), fun e => rq.1 (by subst e; simp [hk])⟩
  have ot : ∀ k, vt.ownBlock = some k → k ≠ g ∧ k ≠ r := fun k hk => ⟨fun e => gq.2 (by subst e; simp [hk]), fun e => rq.2 (by subst e; simp [hk])⟩
  have o1 : w1.rowIs d 47 4 (df b r vs vt) := x.own.of_block (t1.block _ x.own.lt (by simp; exact dg))
  exact ⟨o1.of_block (t2.block _ o1.lt (by simp; exact dr)), m1.touch t2 (by simp; exact br) (by simp; exact gr), r2,
    own_touch (own_touch x.rs t1 (fun k hk => by simp; exact (os k hk).1)) t2 (fun k hk => by simp; exact (os k hk).2),
    own_touch (own_touch x.rt t1 (fun k hk => by simp; exact (ot k hk).1)) t2 (fun k hk => by simp; exact (ot k hk).2),
    fun y hy => (x.kp y hy).touch ff hnew, nd', ge', x.be.trans (ff.below x.be.size x.ge)⟩

theorem dfp_fresh {v v' : Value} {N : Nat} (hnd : (dfp d b g r h v vt).Nodup) (hl : ∀ k ∈ dfp d b g r h v vt, k < N) (hat : v'.ownBlock = v.ownBlock ∨ v'.ownBlock = some N) : (dfp d b g r h v' vt).Nodup := by
  rcases hat with e | e
  · unfold dfp at *; rw [e]; exact hnd
  · have hl' : ∀ k, k ∈ dfp d b g r h v vt → k ≠ N := fun k hk e => by have := hl k hk; omega
    simp only [dfp, e, List.cons_append, List.nil_append, List.nodup_cons, List.mem_cons, List.mem_append, not_or, Option.toList_some] at hnd hl' ⊢
    obtain ⟨⟨db, dg, dr, dh, dq⟩, ⟨bg, br, bh, bq⟩, ⟨gr, gh, gq⟩, ⟨rh, rq⟩, hq, hnd⟩ := hnd
    refine ⟨⟨db, dg, dr, dh, hl' d (by simp), dq.2⟩, ⟨bg, br, bh, hl' b (by simp), bq.2⟩, ⟨gr, gh, hl' g (by simp), gq.2⟩, ⟨rh, hl' r (by simp), rq.2⟩, ⟨hl' h (by simp), hq.2⟩, fun hm => hl' N (by simp [hm]) rfl, (List.nodup_append.1 hnd).2.1⟩

theorem dfp_swap (vs vt : Value) : (dfp d b g r h vs vt).Nodup → (dfp d b g r h vt vs).Nodup := by
  intro hnd
  have hp : (dfp d b g r h vs vt).Perm (dfp d b g r h vt vs) := List.Perm.append_left _ List.perm_append_comm
  exact hp.nodup_iff.1 hnd

theorem dfp_mem (vs vt : Value) (k : Nat) : k ∈ dfp d b g r h vs vt ↔ k ∈ dfp d b g r h vt vs :=
  (List.Perm.append_left _ List.perm_append_comm : (dfp d b g r h vs vt).Perm (dfp d b g r h vt vs)).mem_iff

/-- One more pointer in the first row. -/
theorem Dk.addS {w1 : World} {u v' : Value} {o : Obj} (x : Dk W0 w d b g r h n M vs vt xs ys L) (ho : w1.ownsRow W0.heap.size 71 1 v' (xs.length + 1) (xs ++ [u])) (hg : (w.alloc o).grownBy w1 vs.ownBlock) (hat : v'.ownBlock = vs.ownBlock ∨ v'.ownBlock = some (w.heap.size + 1)) :
    w1.rowIs d 47 4 (df b r vs vt) ∧ Dk W0 (w1.setCell ⟨d, 2, none⟩ v') d b g r h n M v' vt (xs ++ [u]) ys L := by
  have nd := x.nd
  have lts := x.lts
  have hs0 := x.be.size
  have t0 : Touch vs.ownBlock.toList w w1 := by
    have ta : Touch vs.ownBlock.toList w (w.alloc o) := Touch.alloc _ _ _
    refine ⟨hg.os.trans ta.os, hg.tape.trans ta.tape, hg.output.trans ta.output, Nat.le_trans ta.size hg.size, fun k hk hn => ?_⟩
    exact (hg.block k (Nat.lt_of_lt_of_le hk ta.size) (fun e => hn (by rw [← e]; simp))).trans (ta.block k hk hn)
  have nd' : (dfp d b g r h v' vt).Nodup := dfp_fresh nd (fun k hk => by have := lts k hk; omega) hat
  have hnew : Newer w.heap.size (dfp d b g r h vs vt) (dfp d b g r h v' vt) := fun k hk => by
    rcases hat with e | e
    · left; unfold dfp at *; rw [← e]; exact hk
    · simp only [dfp, e, List.cons_append, List.nil_append, List.mem_cons, List.mem_append, Option.toList_some] at hk ⊢
      rcases hk with hk | hk | hk | hk | hk | hk | hk
      · simp [hk]
      · simp [hk]
      · simp [hk]
      · simp [hk]
      · simp [hk]
      · right; omega
      · left; simp [hk]
  have t1 : Touch (d :: vs.ownBlock.toList) w (w1.setCell ⟨d, 2, none⟩ v') := (t0.wide (fun k hk => .inl (List.mem_cons_of_mem _ hk))).trans (Touch.setCell _ _ _ (by simp))
  have ff : Touch (dfp d b g r h vs vt) w (w1.setCell ⟨d, 2, none⟩ v') := t1.wide (fun k hk => .inl (by
    simp only [dfp, List.cons_append, List.nil_append, List.mem_cons, List.mem_append] at hk ⊢
    rcases hk with hk | hk
    · simp [hk]
    · simp [hk]))
  have hvd : v'.ownBlock ≠ some d := fun e => by
    simp only [dfp, e, List.cons_append, List.nil_append, List.nodup_cons, List.mem_cons, not_or, Option.toList_some] at nd'
    exact nd'.1.2.2.2.2.1 (by simp)
  simp only [dfp, List.cons_append, List.nil_append, List.nodup_cons, List.mem_cons, List.mem_append, not_or] at nd
  obtain ⟨⟨db, dg, dr, dh, dq⟩, ⟨bg, br, bh, bq⟩, ⟨gr, gh, gq⟩, ⟨rh, rq⟩, hq, hnd⟩ := nd
  have o1 : w1.rowIs d 47 4 (df b r vs vt) := x.own.of_block (t0.block _ x.own.lt dq.1)
  refine ⟨o1, ?_, x.mp.touch t1 (by simp only [List.mem_cons, not_or]; exact ⟨Ne.symm db, bq.1⟩) (by simp only [List.mem_cons, not_or]; exact ⟨Ne.symm dg, gq.1⟩), x.rm.touch t1 (by simp only [List.mem_cons, not_or]; exact ⟨Ne.symm dr, rq.1⟩) (by simp only [List.mem_cons, not_or]; exact ⟨Ne.symm dh, hq.1⟩), ?_, own_touch x.rt t1 (fun k hk => ?_),
    fun y hy => (x.kp y hy).touch ff hnew, nd', fun k hk => ?_, x.be.trans (ff.below x.be.size x.ge)⟩
  · refine (o1.set 2 _).congr ?_
    intro i hi
    match i, hi with
    | 0, _ | 1, _ | 2, _ | 3, _ => rfl
    | j + 4, h => exact absurd h (by omega)
  · rw [List.length_append]
    exact own_setOther ho (a := ⟨d, 2, none⟩) hvd v'
  · simp only [List.mem_cons, not_or]
    refine ⟨fun e => dq.2 (by subst e; simp [hk]), fun hm => ?_⟩
    have := (List.nodup_append.1 hnd).2.2 k hm k (by simp [hk])
    exact this rfl
  · rcases hnew k hk with h1 | h1
    · exact x.ge k h1
    · omega

/-- One more pointer in the second row. -/
theorem Dk.addT {w1 : World} {u v' : Value} {o : Obj} (x : Dk W0 w d b g r h n M vs vt xs ys L) (ho : w1.ownsRow W0.heap.size 74 1 v' (ys.length + 1) (ys ++ [u])) (hg : (w.alloc o).grownBy w1 vt.ownBlock) (hat : v'.ownBlock = vt.ownBlock ∨ v'.ownBlock = some (w.heap.size + 1)) :
    w1.rowIs d 47 4 (df b r vs vt) ∧ Dk W0 (w1.setCell ⟨d, 3, none⟩ v') d b g r h n M vs v' xs (ys ++ [u]) L := by
  have nd := x.nd
  have lts := x.lts
  have hs0 := x.be.size
  have t0 : Touch vt.ownBlock.toList w w1 := by
    have ta : Touch vt.ownBlock.toList w (w.alloc o) := Touch.alloc _ _ _
    refine ⟨hg.os.trans ta.os, hg.tape.trans ta.tape, hg.output.trans ta.output, Nat.le_trans ta.size hg.size, fun k hk hn => ?_⟩
    exact (hg.block k (Nat.lt_of_lt_of_le hk ta.size) (fun e => hn (by rw [← e]; simp))).trans (ta.block k hk hn)
  have nd' : (dfp d b g r h vs v').Nodup := dfp_swap _ _ (dfp_fresh (dfp_swap _ _ nd) (fun k hk => by have := lts k ((dfp_mem _ _ k).1 hk); omega) hat)
  have hnew : Newer w.heap.size (dfp d b g r h vs vt) (dfp d b g r h vs v') := fun k hk => by
    rcases hat with e | e
    · left; unfold dfp at *; rw [← e]; exact hk
    · simp only [dfp, e, List.cons_append, List.nil_append, List.mem_cons, List.mem_append, Option.toList_some, List.not_mem_nil, or_false] at hk ⊢
      rcases hk with hk | hk | hk | hk | hk | hk | hk
      · simp [hk]
      · simp [hk]
      · simp [hk]
      · simp [hk]
      · simp [hk]
      · left; simp [hk]
      · right; omega
  have t1 : Touch (d :: vt.ownBlock.toList) w (w1.setCell ⟨d, 3, none⟩ v') := (t0.wide (fun k hk => .inl (List.mem_cons_of_mem _ hk))).trans (Touch.setCell _ _ _ (by simp))
  have ff : Touch (dfp d b g r h vs vt) w (w1.setCell ⟨d, 3, none⟩ v') := t1.wide (fun k hk => .inl (by
    simp only [dfp, List.cons_append, List.nil_append, List.mem_cons, List.mem_append] at hk ⊢
    rcases hk with hk | hk
    · simp [hk]
    · simp [hk]))
  have hvd : v'.ownBlock ≠ some d := fun e => by
    simp only [dfp, e, List.cons_append, List.nil_append, List.nodup_cons, List.mem_cons, List.mem_append, not_or, Option.toList_some] at nd'
    exact nd'.1.2.2.2.2.2.1 trivial
  simp only [dfp, List.cons_append, List.nil_append, List.nodup_cons, List.mem_cons, List.mem_append, not_or] at nd
  obtain ⟨⟨db, dg, dr, dh, dq⟩, ⟨bg, br, bh, bq⟩, ⟨gr, gh, gq⟩, ⟨rh, rq⟩, hq, hnd⟩ := nd
  have o1 : w1.rowIs d 47 4 (df b r vs vt) := x.own.of_block (t0.block _ x.own.lt dq.2)
  refine ⟨o1, ?_, x.mp.touch t1 (by simp only [List.mem_cons, not_or]; exact ⟨Ne.symm db, bq.2⟩) (by simp only [List.mem_cons, not_or]; exact ⟨Ne.symm dg, gq.2⟩), x.rm.touch t1 (by simp only [List.mem_cons, not_or]; exact ⟨Ne.symm dr, rq.2⟩) (by simp only [List.mem_cons, not_or]; exact ⟨Ne.symm dh, hq.2⟩), own_touch x.rs t1 (fun k hk => ?_), ?_,
    fun y hy => (x.kp y hy).touch ff hnew, nd', fun k hk => ?_, x.be.trans (ff.below x.be.size x.ge)⟩
  · refine (o1.set 3 _).congr ?_
    intro i hi
    match i, hi with
    | 0, _ | 1, _ | 2, _ | 3, _ => rfl
    | j + 4, h => exact absurd h (by omega)
  · simp only [List.mem_cons, not_or]
    refine ⟨fun e => dq.1 (by subst e; simp [hk]), fun hm => ?_⟩
    have := (List.nodup_append.1 hnd).2.2 k (by simp [hk]) k hm
    exact this rfl
  · rw [List.length_append]
    exact own_setOther ho (a := ⟨d, 3, none⟩) hvd v'
  · rcases hnew k hk with h1 | h1
    · exact x.ge k h1
    · omega
end
end Go.Proofs.YtlnfhnahnmblmabDoor
