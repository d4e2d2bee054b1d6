/-
  What a call does to the book; growInts.
-/
import Derived.Test.YtcijdbhabbepaaaGreatDoorKG5
import Derived.Deep.RegionLaw
set_option linter.unusedVariables false
set_option maxRecDepth 20000
namespace Go.Proofs.YtcijdbhabbepaaaGreatDoor.Kg
open Go.RowKit

/-- From w to w' only the book's own blocks were touched; what it owns and keeps besides is new. -/
structure Ex (w w' : World) (b : Nat) (f f' : Nat → Value) (K K' : List Nat) : Prop where
  t : ∃ G, Touch G w w' ∧ ∀ k, k ∈ G → Own b f k
  o : ∀ k, Own b f' k → Own b f k ∨ w.heap.size ≤ k
  k : ∀ k, k ∈ K → k ∈ K'
  n : ∀ k, k ∈ K' → k ∈ K ∨ w.heap.size ≤ k

theorem Ex.refl (w : World) (b : Nat) (f : Nat → Value) (K : List Nat) : Ex w w b f f K K := ⟨⟨[], Touch.refl _ _, fun k hk => by cases hk⟩, fun k h => .inl h, fun k h => h, fun k h => .inl h⟩

theorem Ex.trans {w w1 w2 : World} {b : Nat} {f f1 f2 : Nat → Value} {K K1 K2 : List Nat} (h : Ex w w1 b f f1 K K1) (g : Ex w1 w2 b f1 f2 K1 K2) : Ex w w2 b f f2 K K2 := by
  obtain ⟨G, h1, h2⟩ := h.t
  obtain ⟨G2, g1, g2⟩ := g.t
  refine ⟨⟨G ++ G2.filter (fun x => decide (x < w.heap.size)), ?_, fun k hk => ?_⟩, fun k hk => ?_, fun k hk => g.k k (h.k k hk), fun k hk => ?_⟩
  · refine (h1.mono (fun k hk => .inl (by simp [hk]))).then g1 (fun x hx => ?_)
    by_cases hlt : x < w.heap.size
    · exact .inl (by simp [hx, hlt])
    · exact .inr (by omega)
  · rcases List.mem_append.1 hk with hk | hk
    · exact h2 k hk
    · simp only [List.mem_filter, decide_eq_true_eq] at hk
      rcases h.o k (g2 k hk.1) with h3 | h3
      · exact h3
      · omega
  · rcases g.o k hk with h3 | h3
    · exact h.o k h3
    · exact .inr (Nat.le_trans h1.size h3)
  · rcases g.n k hk with h3 | h3
    · exact h.n k h3
    · exact .inr (Nat.le_trans h1.size h3)

theorem Ex.rd {w w' : World} {base b : Nat} {f f' : Nat → Value} {xs : Nat → List Value} {K K' : List Nat} (h : Ex w w' b f f' K K') (hi : Iv w base b f xs K) {v : Value} {l : List Value} (hr : Rd w K v l) : Rd w' K' v l := by
  obtain ⟨G, h1, h2⟩ := h.t
  exact (hr.off h1 (fun k hk hm => hi.ownK (h2 k hk) hm)).wide h.k

theorem Ex.prs {w w' : World} {base b : Nat} {f f' : Nat → Value} {xs : Nat → List Value} {K K' : List Nat} (h : Ex w w' b f f' K K') (hi : Iv w base b f xs K) {A B : List Value} (hp : Prs w K A B) : Prs w' K' A B :=
  ⟨hp.len, fun i v hv => by
    obtain ⟨u, l, h1, h2, h3, h4⟩ := hp.at_ i v hv
    exact ⟨u, l, h1, h.rd hi h2, h.rd hi h3, h4⟩⟩

/-- A step that only lays blocks. -/
theorem Ex.below {w w' : World} {b : Nat} {f : Nat → Value} {K : List Nat} (h : Below w.heap.size w w') : Ex w w' b f f K K :=
  ⟨⟨[], Touch.of_below h [], fun k hk => by cases hk⟩, fun k h => .inl h, fun k h => h, fun k h => .inl h⟩

theorem Ex.keepMore {w : World} {b : Nat} {f : Nat → Value} {K : List Nat} {w0 : World} (k : Nat) (h : w0.heap.size ≤ k) (hs : Ex w0 w b f f K K) : Ex w0 w b f f K (k :: K) :=
  ⟨hs.t, hs.o, fun j hj => by simp [hj], fun j hj => by
    rcases List.mem_cons.1 hj with rfl | hj
    · exact .inr h
    · exact .inl hj⟩

theorem Iv.appEx {w w1 : World} {base b : Nat} {f : Nat → Value} {xs : Nat → List Value} {K : List Nat} (h : Iv w base b f xs K) (j : Nat) (h1 : 13 ≤ j) (h2 : j ≤ 20) (x v' : Value)
    (hown : w1.ownsRow base (ty j) 1 v' ((xs j).length + 1) (xs j ++ [x])) (ht : Touch (f j).ownBlock.toList w w1) (hat : v'.ownBlock = (f j).ownBlock ∨ ∃ q, v'.ownBlock = some q ∧ w.heap.size ≤ q) :
    Iv (w1.setCell ⟨b, j, none⟩ v') base b (put f j v') (putl xs j (xs j ++ [x])) K ∧ Ex w (w1.setCell ⟨b, j, none⟩ v') b f (put f j v') K K := by
  obtain ⟨q1, q2⟩ := h.app j h1 h2 x v' hown ht hat
  refine ⟨q1, ⟨⟨_, q2, fun k hk => ?_⟩, fun k hk => Iv.appOwn hat h1 h2 hk, fun k hk => hk, fun k hk => .inl hk⟩⟩
  rcases List.mem_cons.1 hk with rfl | hk
  · exact .inl rfl
  · exact .inr ⟨j, h1, h2, by simpa using hk⟩

theorem Iv.fieldEx {w : World} {base b : Nat} {f : Nat → Value} {xs : Nat → List Value} {K : List Nat} (h : Iv w base b f xs K) (j : Nat) (v : Value) (hj : j < 13 ∨ 20 < j) : Ex w (w.setCell ⟨b, j, none⟩ v) b f (put f j v) K K := by
  refine ⟨⟨[b], Touch.setCell _ _ _ (by simp), fun k hk => .inl (by simpa using hk)⟩, fun k hk => ?_, fun k hk => hk, fun k hk => .inl hk⟩
  rcases hk with rfl | ⟨i, a1, a2, a3⟩
  · exact .inl (.inl rfl)
  · rw [put_ne _ _ (by omega)] at a3
    exact .inl (.inr ⟨i, a1, a2, a3⟩)

theorem Iv.dropEx {w : World} {base b : Nat} {f : Nat → Value} {xs : Nat → List Value} {K : List Nat} (h : Iv w base b f xs K) (j : Nat) : Ex w (w.setCell ⟨b, j, none⟩ (.slice none 0 0)) b f (put f j (.slice none 0 0)) K K := by
  refine ⟨⟨[b], Touch.setCell _ _ _ (by simp), fun k hk => .inl (by simpa using hk)⟩, fun k hk => ?_, fun k hk => hk, fun k hk => .inl hk⟩
  rcases hk with rfl | ⟨i, a1, a2, a3⟩
  · exact .inl (.inl rfl)
  · by_cases hi : i = j
    · subst hi; rw [put_same] at a3; cases a3
    · rw [put_ne _ _ hi] at a3
      exact .inl (.inr ⟨i, a1, a2, a3⟩)

theorem grow_bk {w w3 : World} {b : Nat} {f : Nat → Value} {o : Obj} {r : Option Nat} (hg : (w.alloc o).grownBy w3 r) (h : Bk w b f) (hn : some b ≠ r) : Bk w3 b f := by
  have := hg.block b (by have := h.lt; simp; omega) hn
  exact this.trans ((Below.heap_alloc _ _ b h.lt).trans h)

/-- The walk at an append that takes its turn in a region that draws. -/
theorem step_append_own_at {P : Program} {ops : Array Oper} {o : Oper} {a : Act} {w : World} {K : Act → World → Prop} {Q : Exit → Act → World → Prop} {E : Prop} (hgd : o.guard = none) (s x : Operand) (t : TypeId)
    (ho : o.op = .call { callee := .builtin .append, args := #[s, x], argTypes := #[t, t] })
    (base : Nat) (e : TypeId) (i : TypeInfo) (z : Value) (size bytes : Nat) (ht : P.underlying t = some (.slice e)) (hi : P.info? e = some i) (hz : i.zero = some z)
    (hsize : i.size = size) (hby : i.bytes = bytes) (hzs : z.cells.size = size) (hsz : 0 < size)
    (v : Value) (n : Nat) (xs : List Value) (hs : a.eval s = v) (hown : w.ownsRow base e size v n xs)
    (ad : Addr) (m c : Nat) (news : List Value) (hx : a.eval x = .slice (some ad) m c) (hl : news.length = m * size) (hnews : ∀ j u, news[j]? = some u → w.cell? (ad.add j) = some u) (h1 : ∀ u ∈ news, u.oneCell' = true)
    (h63 : n + m ≤ maxLen) (hbytes : (n + m) * bytes ≤ 140737488355328) (hbase : base ≤ w.heap.size)
    (h : ∀ v' w', w'.ownsRow base e size v' (n + m) (xs ++ news) → w.grownBy w' v.ownBlock → (v'.ownBlock = v.ownBlock ∨ v'.ownBlock = some w.heap.size) → K (a.put o.dst v') w') :
    if Region.wanted o (yielded ops a.tmps) = true then Oper.wp P o a w K Q else E := by
  have hw : Region.wanted o (yielded ops a.tmps) = true := by simp [Region.wanted, hgd]
  rw [if_pos hw]
  obtain ⟨v', w', hr, h2, h3, h4, h5⟩ := run_append_own_at (P := P) w base t o.type e i z size bytes ht hi hz hsize hby hzs hsz v n xs hown ad m c news hl hnews h1 h63 hbytes hbase
  unfold Oper.wp
  simp [execOp, ho, resolve, invoke, builtin, hs, hx, hr, Result.andThen]
  exact h v' w' h2 h3 h5

/-- The facts on the two types, for append. -/
structure Inf (i0 i1 : TypeInfo) : Prop where
  a0 : Tryz.prog.info? 3 = some i0
  a1 : i0.zero = some (.int .i64 0)
  a2 : i0.size = 1
  a3 : i0.bytes = 8
  b0 : Tryz.prog.info? 29 = some i1
  b1 : i1.zero = some (.slice none 0 0)
  b2 : i1.size = 1
  b3 : i1.bytes = 24

theorem inf_ex : ∃ i0 i1, Inf i0 i1 := by
  obtain ⟨i0, h0, h1, h2, h3⟩ := info_parts Tryz.infoInt
  obtain ⟨i1, g0, g1, g2, g3⟩ := info_parts Tryz.infoInts
  exact ⟨i0, i1, h0, h1, h2, h3, g0, g1, g2, g3⟩

end Go.Proofs.YtcijdbhabbepaaaGreatDoor.Kg
