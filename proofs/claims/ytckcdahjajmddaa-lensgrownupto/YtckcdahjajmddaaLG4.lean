/-
  Growth by site: rows of objects.
-/
import Derived.Test.YtckcdahjajmddaaPLa
import Derived.Test.YtckcdahjajmddaaKG6a
set_option linter.unusedVariables false
set_option maxRecDepth 20000
namespace Go.Proofs.Ytckcdahjajmddaa
open Go.RowKit Go.Shelf

/-- append of a list that is read, of elements of any size; it may be nil. -/
theorem wpList_append_rows {P : Program} {w : World} {ops : Array Oper} {rest : List Oper} {o : Oper} {a : Act} {Q : Exit → Act → World → Prop} (hgd : o.guard = none) (s x : Operand) (t : TypeId)
    (ho : o.op = .call { callee := .builtin .append, args := #[s, x], argTypes := #[t, t] })
    (base : Nat) (e : TypeId) (i : TypeInfo) (z : Value) (size bytes : Nat) (ht : P.underlying t = some (.slice e)) (hi : P.info? e = some i) (hz : i.zero = some z)
    (hsize : i.size = size) (hby : i.bytes = bytes) (hzs : z.cells.size = size) (hsz : 0 < size)
    (v : Value) (n : Nat) (xs : List Value) (hs : a.eval s = v) (hown : w.ownsRow base e size v n xs)
    (ax : Option Addr) (m c : Nat) (news : List Value) (hx : a.eval x = .slice ax m c) (hl : news.length = m * size) (hnews : ∀ (j : Nat) u, news[j]? = some u → ∃ ad, ax = some ad ∧ w.cell? (ad.add j) = some u) (h1 : ∀ u ∈ news, u.oneCell' = true)
    (h63 : n + m ≤ maxLen) (hbytes : (n + m) * bytes ≤ 140737488355328) (hbase : base ≤ w.heap.size)
    (h : ∀ v' w', w'.ownsRow base e size v' (n + m) (xs ++ news) → w.grownBy w' v.ownBlock → (v'.ownBlock = v.ownBlock ∨ v'.ownBlock = some w.heap.size) → wpList P ops Q rest (a.put o.dst v') w') :
    wpList P ops Q (o :: rest) a w := by
  cases ax with
  | none =>
    have hx0 : news = [] := by
      cases news with
      | nil => rfl
      | cons y ys => obtain ⟨ad, e, -⟩ := hnews 0 y rfl; cases e
    subst hx0
    have hm : m = 0 := by
      have : m * size = 0 := by simpa using hl.symm
      rcases Nat.mul_eq_zero.1 this with h | h
      · exact h
      · omega
    subst hm
    refine wpList_plain hgd fun K hK => ?_
    obtain ⟨a0, cp, rfl, hle⟩ : ∃ a0 cp, v = .slice a0 n cp ∧ n ≤ cp := by
      rcases hown.2 with ⟨rfl, rfl⟩ | ⟨g, cap, cur, rfl, _, _, hle, _⟩
      · exact ⟨_, _, rfl, Nat.le_refl _⟩
      · exact ⟨_, _, rfl, hle⟩
    have hr := run_append_nothing (P := P) w t t o.type e i ht hi a0 n cp hle (.slice none 0 c) (Src.ofNil w ht c)
    unfold Oper.wp execOp
    simp only [ho, resolve, invoke, builtin, Sem.run_bind, Sem.run_pure, Result.andThen_ok, List.map_toArray, List.map_cons, List.map_nil, hs, hx, hr]
    exact hK _ _ (h _ _ (by simpa using hown) ⟨rfl, rfl, rfl, Nat.le_refl _, fun _ _ _ => rfl⟩ (.inl rfl))
  | some ad =>
    exact wpList_append_own_at w hgd s x t ho base e i z size bytes ht hi hz hsize hby hzs hsz v n xs hs hown ad m c news hx hl (fun j u hj => by
      obtain ⟨ad', e, h⟩ := hnews j u hj
      cases e; exact h) h1 h63 hbytes hbase (fun v' w' q1 q2 _ q4 => h v' w' q1 q2 q4)

/-- The cells of objects. -/
def ofl (os : List OL) : List Value := os.flatMap (fun x => x.cells.toList)

theorem ofl_len (os : List OL) : (ofl os).length = os.length * 5 := by
  induction os with
  | nil => rfl
  | cons x os ih =>
    have : ofl (x :: os) = x.cells.toList ++ ofl os := rfl
    rw [this, List.length_append, ih]
    simp
    omega

theorem ofl_append (a b : List OL) : ofl (a ++ b) = ofl a ++ ofl b := by simp [ofl]

theorem ofl_at : ∀ (os : List OL) (i j : Nat) (x : OL), os[i]? = some x → j < 5 → (ofl os)[i * 5 + j]? = x.cells[j]?
  | [], i, j, x, h, _ => by simp at h
  | y :: os, 0, j, x, h, hj => by
    simp at h
    subst h
    have : ofl (y :: os) = y.cells.toList ++ ofl os := rfl
    rw [this, Nat.zero_mul, Nat.zero_add, List.getElem?_append_left (by simpa using hj), Array.getElem?_toList]
  | y :: os, i + 1, j, x, h, hj => by
    have : ofl (y :: os) = y.cells.toList ++ ofl os := rfl
    rw [this, List.getElem?_append_right (by simp; omega)]
    have e : (i + 1) * 5 + j - y.cells.toList.length = i * 5 + j := by simp; omega
    rw [e]
    exact ofl_at os i j x (by simpa using h) hj

theorem ofl_one {n0 : Nat} {w : World} {v : Value} {os : List OL} (h : Ord n0 w v os) : ∀ u ∈ ofl os, u.oneCell' = true := by
  intro u hu
  unfold ofl at hu
  obtain ⟨x, hx, hu⟩ := List.mem_flatMap.1 hu
  obtain ⟨a, cap, -, h2⟩ := h
  obtain ⟨i, hi⟩ := List.getElem?_of_mem hx
  obtain ⟨⟨pa, pc, ep, -, -⟩, ⟨ra, rc, er, -, -⟩, -⟩ := h2 i x hi
  simp [ep, er] at hu
  rcases hu with rfl | rfl | rfl | rfl | rfl <;> rfl

theorem Ord.src {n0 : Nat} {w : World} {a : Option Addr} {m c : Nat} {os : List OL} (h : Ord n0 w (.slice a m c) os) : ∀ (j : Nat) u, (ofl os)[j]? = some u → ∃ ad, a = some ad ∧ w.cell? (ad.add j) = some u := by
  intro j u hj
  obtain ⟨a', cap, e, h2⟩ := h
  cases e
  have hl := (List.getElem?_eq_some_iff.1 hj).1
  rw [ofl_len] at hl
  have hi : j / 5 < os.length := by omega
  obtain ⟨-, -, q, off, rfl, -, hc⟩ := h2 (j / 5) _ (List.getElem?_eq_getElem hi)
  have h9 := ofl_at os (j / 5) (j % 5) _ (List.getElem?_eq_getElem hi) (by omega)
  have e9 : j / 5 * 5 + j % 5 = j := by omega
  rw [e9, hj] at h9
  refine ⟨_, rfl, ?_⟩
  have h8 := hc (j % 5) (by omega)
  rw [← h9] at h8
  rw [Addr.add_lit]
  have e8 : off + j / 5 * 5 + j % 5 = off + j := by omega
  rw [e8] at h8
  exact h8

/-- Growths as cells. -/
def gcl (l : List (Int × Int × Int)) : List Value := l.flatMap (fun x => [.int .i64 x.1, .int .i64 x.2.1, .int .i64 x.2.2])
theorem gcl_len (l : List (Int × Int × Int)) : (gcl l).length = l.length * 3 := by
  induction l with
  | nil => rfl
  | cons x l ih =>
    have : gcl (x :: l) = [.int .i64 x.1, .int .i64 x.2.1, .int .i64 x.2.2] ++ gcl l := rfl
    rw [this, List.length_append, ih]
    simp
    omega
theorem gcl_snoc (l : List (Int × Int × Int)) (x : Int × Int × Int) : gcl (l ++ [x]) = gcl l ++ [.int .i64 x.1, .int .i64 x.2.1, .int .i64 x.2.2] := by simp [gcl]

/-- v is a list of growths of one's own. -/
def Gl (w : World) (base : Nat) (v : Value) (l : List (Int × Int × Int)) : Prop := w.ownsRow base 55 3 v l.length (gcl l)

end Go.Proofs.Ytckcdahjajmddaa
