/-
  Images, lists with room behind them: objects while they are made.
-/
import Derived.Test.YtckgcpoheodbcaaGreatDoorRM6
set_option linter.unusedVariables false
set_option maxRecDepth 20000
namespace Go.Proofs.YtckgcpoheodbcaaGreatDoor
open Go.RowKit Go.Shelf

theorem step_append_own_at {P : Program} {ops : Array Oper} {o : Oper} {a : Act} {w : World} {K : Act → World → Prop} {Q : Exit → Act → World → Prop} {E : Prop}
    (hgd : o.guard = none) (s x : Operand) (t : TypeId) (ho : o.op = .call { callee := .builtin .append, args := #[s, x], argTypes := #[t, t] })
    (base : Nat) (e : TypeId) (i : TypeInfo) (z : Value) (size bytes : Nat) (ht : P.underlying t = some (.slice e)) (hi : P.info? e = some i) (hz : i.zero = some z)
    (hsize : i.size = size) (hby : i.bytes = bytes) (hzs : z.cells.size = size) (hsz : 0 < size)
    (v : Value) (n : Nat) (xs : List Value) (hs : a.eval s = v) (hown : w.ownsRow base e size v n xs)
    (ad : Addr) (m c : Nat) (news : List Value) (hx : a.eval x = .slice (some ad) m c) (hl : news.length = m * size) (hnews : ∀ j u, news[j]? = some u → w.cell? (ad.add j) = some u) (h1 : ∀ u ∈ news, u.oneCell' = true)
    (h63 : n + m ≤ maxLen) (hbytes : (n + m) * bytes ≤ 140737488355328) (hbase : base ≤ w.heap.size)
    (h : ∀ v' w', w'.ownsRow base e size v' (n + m) (xs ++ news) → w.grownBy w' v.ownBlock → (v'.ownBlock = v.ownBlock ∨ v'.ownBlock = some w.heap.size) → K (a.put o.dst v') w') :
    if Region.wanted o (yielded ops a.tmps) = true then Oper.wp P o a w K Q else E := by
  have hw : Region.wanted o (yielded ops a.tmps) = true := by simp [Region.wanted, hgd]
  rw [if_pos hw]
  obtain ⟨v', w', hr, h2, h3, h4, h5⟩ := run_append_own_at (P := P) w base t o.type e i z size bytes ht hi hz hsize hby hzs hsz v n xs hown ad m c news hl hnews h1 h63 hbytes hbase
  unfold Oper.wp
  simp [execOp, ho, resolve, invoke, builtin, hs, hx, hr, Result.andThen]
  exact h v' w' h2 h3 h5

/-- The cells of objects; of marks. -/
def oflat (L : List OL) : List Value := L.flatMap (fun x => x.cells.toList)
def mflat (m : Nat) : List Value := (List.range m).flatMap (fun j => (mob j).toList)

theorem oflat_len (L : List OL) : (oflat L).length = L.length * 5 := by
  induction L with
  | nil => rfl
  | cons x r ih => simp only [oflat, List.flatMap_cons, List.length_append, List.length_cons] at ih ⊢; rw [ih]; simp; omega
theorem mflat_len (m : Nat) : (mflat m).length = m * 5 := by
  induction m with
  | zero => rfl
  | succ m ih => simp only [mflat, List.range_succ, List.flatMap_append, List.length_append] at ih ⊢; rw [ih]; simp; omega
theorem oflat_snoc (L : List OL) (x : OL) : oflat (L ++ [x]) = oflat L ++ x.cells.toList := by simp [oflat]
theorem mflat_two (m : Nat) : mflat (2 * m + 2) = mflat (2 * m) ++ ((mob (2 * m)).toList ++ (mob (2 * m + 1)).toList) := by
  unfold mflat
  rw [show 2 * m + 2 = (2 * m + 1) + 1 by omega, List.range_succ, List.range_succ]
  simp
theorem oflat_at {L : List OL} {i : Nat} {x : OL} (h : L[i]? = some x) (j : Nat) (hj : j < 5) : (oflat L)[i * 5 + j]? = x.cells[j]? := by
  induction L generalizing i with
  | nil => simp at h
  | cons y r ih =>
    have hl : (y.cells.toList).length = 5 := rfl
    simp only [oflat, List.flatMap_cons]
    cases i with
    | zero =>
      simp at h
      subst h
      rw [List.getElem?_append_left (by rw [hl]; omega), Nat.zero_mul, Nat.zero_add, Array.getElem?_toList]
    | succ i =>
      rw [List.getElem?_append_right (by rw [hl]; omega), hl, show (i + 1) * 5 + j - 5 = i * 5 + j by omega]
      exact ih (by simpa using h)
theorem mflat_at {m i : Nat} (h : i < m) (j : Nat) (hj : j < 5) : (mflat m)[i * 5 + j]? = (mob i)[j]? := by
  induction m with
  | zero => omega
  | succ m ih =>
    have hs : mflat (m + 1) = mflat m ++ (mob m).toList := by simp [mflat, List.range_succ]
    rw [hs]
    by_cases e : i < m
    · rw [List.getElem?_append_left (by rw [mflat_len]; omega)]
      exact ih e
    · have e2 : i = m := by omega
      subst e2
      rw [List.getElem?_append_right (by rw [mflat_len]; omega), mflat_len, Nat.add_sub_cancel_left, Array.getElem?_toList]

theorem cells_new (w : World) (cs : Array Value) (t : TypeId) : ∀ j u, cs.toList[j]? = some u → (w.alloc (.cells cs t)).cell? ((⟨w.heap.size, 0, none⟩ : Addr).add j) = some u := by
  intro j u hu
  have e := cell_of_row _ _ j _ _ _ (heap_alloc_new w (.cells cs t (0, 0)))
  rw [Addr.add_lit, Nat.zero_add, e, ← Array.getElem?_toList]
  exact hu

/-- An object's lists. -/
def PO (lo : Nat) (w : World) (N : Nat → Nat) (F : List Nat) (x : OL) : Prop := (∃ b, Got w N F lo b .i64 x.vp x.o.ps) ∧ ∃ b, Got w N F lo b .u64 x.vr (x.o.rs.map Int.ofNat)
theorem PO.stp {lo : Nat} {w w' : World} {N N' : Nat → Nat} {F F' : List Nat} {x : OL} (h : PO lo w N F x) (s : Stp w w' F F' N N') : PO lo w' N' F' x := by
  obtain ⟨⟨b, h1⟩, b', h2⟩ := h
  exact ⟨⟨b, h1.stp s⟩, b', h2.stp s⟩

/-- Objects while they are made. -/
structure Ino (w0 w : World) (n1 R : Nat) (N0 N : Nat → Nat) (S0 S : RS) (X : List Nat) (v : Value) (L : List OL) (m : Nat) : Prop where
  row : w.ownsRow w0.heap.size 61 5 v (L.length + m) (oflat L ++ mflat m)
  bd : Bd w n1 R N S (v.ownBlock.toList ++ X)
  st : Stp w0 w (X ++ S0.F R) ((v.ownBlock.toList ++ X) ++ S.F R) N0 N
  tc : Kg.Touch (S0.F R) w0 w
  p : ∀ x, x ∈ L → PO n1 w N ((v.ownBlock.toList ++ X) ++ S.F R) x

section
variable {w0 w w' : World} {n1 R : Nat} {N0 N N' : Nat → Nat} {S0 S S' : RS} {X : List Nat} {v : Value} {L : List OL} {m : Nat}

theorem Ino.start (h : Bd w0 n1 R N0 S0 X) : Ino w0 (w0.alloc (.cells #[] 61)) n1 R N0 N0 S0 S0 X (.slice (some ⟨w0.heap.size, 0, none⟩) 0 0) [] 0 := by
  have b : Below w0.heap.size w0 (w0.alloc (.cells #[] 61)) := Below.alloc (Below.refl _ _) (Nat.le_refl _) _
  have hsz : (w0.alloc (.cells #[] 61)).heap.size = w0.heap.size + 1 := by simp
  have hm := h.move (N' := N0) (X' := [w0.heap.size] ++ X) (Kg.Touch.of_below b X) (fun k hk => by
    rcases List.mem_append.1 hk with h1 | h1
    · simp at h1; exact ⟨by omega, .inr (by omega)⟩
    · exact ⟨Nat.lt_of_lt_of_le (h.x k h1).1 b.size, .inl h1⟩) (fun _ _ _ => rfl) (fun k hk => h.d k (Nat.le_trans b.size hk)) (fun k hk => by
    rcases List.mem_append.1 hk with h1 | h1
    · simp at h1; exact h.d k (by omega)
    · exact h.z k (List.mem_append_left _ h1))
  exact ⟨⟨by simp [oflat, mflat], .inr ⟨_, 0, #[], rfl, Nat.le_refl _, heap_alloc_new w0 _, by simp, by simp [maxLen], by simp, by simp [oflat, mflat]⟩⟩, hm.1, hm.2, Kg.Touch.of_below b _, fun x hx => by simp at hx⟩

/-- A call that makes other lists. -/
theorem Ino.sub (h : Ino w0 w n1 R N0 N S0 S X v L m) {d : Nat} {G : World → (Nat → Nat) → List Nat → Prop} (k : RPost n1 R N S (v.ownBlock.toList ++ X) w w' d G) :
    ∃ N' S', Ino w0 w' n1 R N0 N' S0 S' X v L m ∧ G w' N' ((v.ownBlock.toList ++ X) ++ S'.F R) ∧ S'.tot = S.tot + d ∧ Stp w w' ((v.ownBlock.toList ++ X) ++ S.F R) ((v.ownBlock.toList ++ X) ++ S'.F R) N N' := by
  obtain ⟨N', S', h1, h2, h3, h4, h5⟩ := k
  refine ⟨N', S', ⟨Kg.row_keep2 h.row h4 (fun q hq => (h.bd.x q (List.mem_append_left _ (by rw [Option.mem_toList]; exact hq))).2), h2, h.st.trans h3, h.tc.then h4 (fun q hq => ?_), fun x hx => (h.p x hx).stp h3⟩, h1, h5, h3⟩
  rcases h.st.f q (List.mem_append_right _ hq) with h6 | h6
  · rcases List.mem_append.1 h6 with h7 | h7
    · exact absurd hq (h.bd.x q (List.mem_append_right _ h7)).2
    · exact .inl h7
  · exact .inr h6

/-- Blocks that are laid. -/
theorem Ino.below (h : Ino w0 w n1 R N0 N S0 S X v L m) (b : Below w.heap.size w w') : Ino w0 w' n1 R N0 N S0 S X v L m := by
  have s := (h.bd.laid b (fun _ _ => rfl) (fun k hk => h.bd.d k (Nat.le_trans b.size hk))).2
  exact ⟨Kg.row_keep2 h.row (Kg.Touch.of_below b []) (fun _ _ => by simp), h.bd.below b, h.st.trans s, h.tc.trans (Kg.Touch.of_below b _), fun x hx => (h.p x hx).stp s⟩

/-- Something is laid behind it. -/
theorem Ino.grow (h : Ino w0 w n1 R N0 N S0 S X v L m) {v' : Value} {L' : List OL} {m' : Nat} (t : Kg.Touch v.ownBlock.toList w w') (hat : v'.ownBlock = v.ownBlock ∨ v'.ownBlock = some w.heap.size) (hrow : w'.ownsRow w0.heap.size 61 5 v' (L'.length + m') (oflat L' ++ mflat m'))
    (hL : ∀ x, x ∈ L' → x ∈ L ∨ PO n1 w N ((v.ownBlock.toList ++ X) ++ S.F R) x) : Ino w0 w' n1 R N0 N S0 S X v' L' m' := by
  have hm := h.bd.move (N' := N) (X' := v'.ownBlock.toList ++ X) (t.mono (fun k hk => .inl (List.mem_append_left _ hk))) (fun k hk => by
    rcases List.mem_append.1 hk with h1 | h1
    · rw [Option.mem_toList] at h1
      refine ⟨(hrow.lt k h1).2, ?_⟩
      rcases hat with e | e
      · exact .inl (List.mem_append_left _ (by rw [Option.mem_toList, ← e]; exact h1))
      · rw [e] at h1
        exact .inr (Nat.le_of_eq (Option.some.inj h1))
    · exact ⟨Nat.lt_of_lt_of_le (h.bd.x k (List.mem_append_right _ h1)).1 t.size, .inl (List.mem_append_right _ h1)⟩) (fun _ _ _ => rfl) (fun k hk => h.bd.d k (Nat.le_trans t.size hk)) (fun k hk => by
    rcases List.mem_append.1 hk with h1 | h1
    · rw [Option.mem_toList] at h1
      rcases hat with e | e
      · exact h.bd.z k (List.mem_append_left _ (List.mem_append_left _ (by rw [Option.mem_toList, ← e]; exact h1)))
      · rw [e] at h1
        exact h.bd.d k (Nat.le_of_eq (Option.some.inj h1))
    · exact h.bd.z k (List.mem_append_left _ (List.mem_append_right _ h1)))
  refine ⟨hrow, hm.1, h.st.trans hm.2, h.tc.then t (fun q hq => ?_), fun x hx => ?_⟩
  · rw [Option.mem_toList] at hq
    exact .inr (h.row.lt q hq).1
  · rcases hL x hx with h1 | h1
    · exact (h.p x h1).stp hm.2
    · exact h1.stp hm.2

/-- It is whole. -/
theorem Ino.fin {b c : Nat} (h : Ino w0 w n1 R N0 N S0 S X (.slice (some ⟨b, 0, none⟩) (L.length + 8) c) L 8) (hX : b ∉ X) (hn1 : n1 ≤ w0.heap.size) :
    Bd w n1 R (upN N b (L.length * 5)) S X ∧ Stp w0 w (X ++ S0.F R) (X ++ S.F R) N0 (upN N b (L.length * 5)) ∧ b < w.heap.size ∧ b ∉ X ++ S.F R ∧ n1 ≤ b ∧ upN N b (L.length * 5) b = L.length * 5 ∧
      (∀ (i : Nat) x, L[i]? = some x → (∀ j, j < 5 → w.cell? ⟨b, i * 5 + j, none⟩ = x.cells[j]?) ∧ PO n1 w (upN N b (L.length * 5)) (X ++ S.F R) x) ∧ (∀ j, j < 8 → ∀ i, i < 5 → w.cell? ⟨b, (L.length + j) * 5 + i, none⟩ = (mob j)[i]?) ∧ ∀ f, w.frozen? ⟨b, f, none⟩ = false := by
  have hb : (Value.slice (some ⟨b, 0, none⟩) (L.length + 8) c).ownBlock = some b := rfl
  have hbl := h.row.lt b hb
  have hbF : b ∉ S.F R := (h.bd.x b (List.mem_append_left _ (by rw [Option.mem_toList]; exact hb))).2
  have hm := h.bd.move (N' := upN N b (L.length * 5)) (X' := X) (Kg.Touch.refl _ _) (fun k hk => ⟨(h.bd.x k (List.mem_append_right _ hk)).1, .inl (List.mem_append_right _ hk)⟩) (fun k hk hx => by
    unfold upN
    rw [if_neg (fun (e : k = b) => hx (List.mem_append_left _ (by rw [e]; simp [Value.ownBlock])))]) (fun k hk => by
    unfold upN
    rw [if_neg (by omega)]
    exact h.bd.d k hk) (fun k hk => by
    unfold upN
    rw [if_neg (fun (e : k = b) => hX (e ▸ hk))]
    exact h.bd.z k (List.mem_append_left _ (List.mem_append_right _ hk)))
  have hc : ∀ (j : Nat) u, (oflat L ++ mflat 8)[j]? = some u → w.cell? ⟨b, j, none⟩ = some u := fun j u hu => by
    have h9 := h.row.cells (g := b) rfl j u hu
    rw [Addr.add_lit, Nat.zero_add] at h9
    exact h9
  refine ⟨hm.1, h.st.trans hm.2, hbl.2, fun hmem => (List.mem_append.1 hmem).elim hX hbF, Nat.le_trans hn1 hbl.1, by unfold upN; rw [if_pos rfl], fun i x hx => ⟨fun j hj => ?_, (h.p x (List.mem_of_getElem? hx)).stp hm.2⟩, fun j hj i hi => ?_, fun f => ?_⟩
  · have hil := (List.getElem?_eq_some_iff.1 hx).1
    have hu : x.cells[j]? = some (x.cells[j]'(by simpa using hj)) := Array.getElem?_eq_getElem (by simpa using hj)
    rw [hu]
    refine hc _ _ ?_
    rw [List.getElem?_append_left (by rw [oflat_len]; omega), oflat_at hx j hj, hu]
  · have hu : (mob j)[i]? = some ((mob j)[i]'(by simpa using hi)) := Array.getElem?_eq_getElem (by simpa using hi)
    rw [hu]
    refine hc _ _ ?_
    rw [List.getElem?_append_right (by rw [oflat_len]; omega), oflat_len, show (L.length + j) * 5 + i - L.length * 5 = j * 5 + i by omega, mflat_at hj i hi, hu]
  · rcases h.row.2 with ⟨h1, h2⟩ | ⟨g', cap', cur, h1, h2, h3, h4⟩
    · cases h1
    · cases h1
      exact Kg.heap_frozen h3 f

end

end Go.Proofs.YtckgcpoheodbcaaGreatDoor
