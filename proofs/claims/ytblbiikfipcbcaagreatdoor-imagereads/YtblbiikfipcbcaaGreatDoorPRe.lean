import Derived.Test.YtblbiikfipcbcaaGreatDoorPRd
import Derived.Laws.OwnMore
import Derived.Test.YtblbiikfipcbcaaGreatDoorPWa
import Derived.Test.YtblbiikfipcbcaaGreatDoorPWb
/-
  Images, the reader: lists of numbers.
-/
set_option linter.unusedVariables false
set_option maxRecDepth 20000
namespace Go.Proofs.YtblbiikfipcbcaaGreatDoor
open Go.RowKit Go.Shelf

theorem rep_snoc {α : Type} {f : Im.Ps α} : ∀ (i p r r' : Nat) (xs : List α) (x : α), Im.rep f i p = .ok (xs, r) → f r = .ok (x, r') → Im.rep f (i + 1) p = .ok (xs ++ [x], r') := by
  intro i
  induction i with
  | zero =>
    intro p r r' xs x h hf
    have h1 : p = r ∧ [] = xs := by
      simp only [Im.rep, Im.Ps.ret, Except.ok.injEq, Prod.mk.injEq] at h
      exact ⟨h.2, h.1⟩
    obtain ⟨rfl, rfl⟩ := h1
    simp [Im.rep, Im.Ps.bind, Im.Ps.map, Im.Ps.ret, hf]
  | succ i ih =>
    intro p r r' xs x h hf
    rw [Im.rep] at h ⊢
    simp only [Im.Ps.bind, Im.Ps.map, Im.Ps.ret] at h ⊢
    cases hp : f p with
    | error e => rw [hp] at h; cases h
    | ok y =>
      rw [hp] at h
      simp only at h ⊢
      cases hr : Im.rep f i y.2 with
      | error e => rw [hr] at h; cases h
      | ok ys =>
        rw [hr] at h
        simp only [Except.ok.injEq, Prod.mk.injEq] at h
        obtain ⟨rfl, rfl⟩ := h
        have := ih y.2 ys.2 r' ys.1 x hr hf
        rw [this]
        rfl

theorem rep_err {α : Type} {f : Im.Ps α} : ∀ (i p r N : Nat) (xs : List α) (e : Nat × Nat), Im.rep f i p = .ok (xs, r) → f r = .error e → i < N → Im.rep f N p = .error e := by
  intro i
  induction i with
  | zero =>
    intro p r N xs e h hf hN
    have h1 : p = r := by
      simp only [Im.rep, Im.Ps.ret, Except.ok.injEq, Prod.mk.injEq] at h
      exact h.2
    subst h1
    obtain ⟨M, rfl⟩ : ∃ M, N = M + 1 := ⟨N - 1, by omega⟩
    simp [Im.rep, Im.Ps.bind, hf]
  | succ i ih =>
    intro p r N xs e h hf hN
    obtain ⟨M, rfl⟩ : ∃ M, N = M + 1 := ⟨N - 1, by omega⟩
    rw [Im.rep] at h ⊢
    simp only [Im.Ps.bind, Im.Ps.map, Im.Ps.ret] at h ⊢
    cases hp : f p with
    | error e' => rw [hp] at h; cases h
    | ok y =>
      rw [hp] at h
      simp only at h ⊢
      cases hr : Im.rep f i y.2 with
      | error e => rw [hr] at h; cases h
      | ok ys =>
        rw [hr] at h
        simp only [Except.ok.injEq, Prod.mk.injEq] at h
        obtain ⟨rfl, rfl⟩ := h
        rw [ih y.2 ys.2 M ys.1 e hr hf (by omega)]

theorem listP_ok {α : Type} {bs : List Nat} {f : Im.Ps α} {p N p1 r : Nat} {xs : List α} (h : Im.many bs p = .ok (N, p1)) (k : Im.rep f N p1 = .ok (xs, r)) : Im.listP bs f p = .ok (xs, r) := by
  simp [Im.listP, Im.Ps.bind, h, k]
theorem listP_err {α : Type} {bs : List Nat} {f : Im.Ps α} {p N p1 : Nat} {e : Nat × Nat} (h : Im.many bs p = .ok (N, p1)) (k : Im.rep f N p1 = .error e) : Im.listP bs f p = .error e := by
  simp [Im.listP, Im.Ps.bind, h, k]
theorem listP_cnt {α : Type} {bs : List Nat} {f : Im.Ps α} {p : Nat} {e : Nat × Nat} (h : Im.many bs p = .error e) : Im.listP bs f p = .error e := by
  simp [Im.listP, Im.Ps.bind, h]

theorem set_self {α : Type} {l : List α} {o : Nat} {x : α} (h : l[o]? = some x) : l.set o x = l := by
  apply List.ext_getElem?
  intro k
  rw [List.getElem?_set]
  by_cases e : o = k
  · subst e
    have := (List.getElem?_eq_some_iff.1 h).1
    rw [if_pos rfl, if_pos this, h]
  · rw [if_neg e]

/-- A row's last thing is another one now. -/
theorem row_last {w' : World} {lo e F n cap : Nat} {cur : Array Value} {xs : List Value} {z u : Value} {w : World} (h : w.ownsRow lo e 1 (.slice (some ⟨F, 0, none⟩) (n + 1) cap) (n + 1) (xs ++ [z])) (hF : w.heap[F]? = some (.cells cur e (0, 0))) (h' : w'.heap[F]? = some (.cells (cur.setIfInBounds n u) e (0, 0))) : w'.ownsRow lo e 1 (.slice (some ⟨F, 0, none⟩) (n + 1) cap) (n + 1) (xs ++ [u]) := by
  have hx : xs.length = n := by have := h.1; simp at this; exact this
  refine ⟨by simp [hx], ?_⟩
  rcases h.2 with ⟨h1, _⟩ | ⟨g, cp, c2, e1, hb, hg, hn, hm, hs, ht⟩
  · cases h1
  · cases e1
    rw [hF] at hg
    cases hg
    refine .inr ⟨F, cap, _, rfl, hb, h', hn, hm, by simpa using hs, ?_⟩
    rw [Array.toList_setIfInBounds, List.take_set, ht, ← hx]
    simp

set_option maxHeartbeats 4000000 in
/-- A list of numbers. -/
theorem rd_flat {w : World} {n0 R p b o t c c2 Fe Fg et : Nat} {cnt : Int} {v : Value} {bs : List Nat} {cs : Array Value} (f : Im.Ps Nat) (val : Nat → Value) (z : Value) (P : Nat → Nat → Value → Prop)
    (h : Rdr w n0 R v bs p) (hby : ∀ x, x ∈ bs → x < 256) (hB : w.heap[b]? = some (.cells cs t (0, 0))) (hv : cs[o]? = some (.slice none 0 0)) (hn : n0 ≤ b) (hbR : b ≠ R) (hte : t ≠ et) (hRe : 70 ≠ et)
    (hcl : c < w.heap.size) (hcR : c ≠ R) (hcb : c ≠ b) (h2l : c2 < w.heap.size) (h2R : c2 ≠ R) (h2b : c2 ≠ b)
    (entE : ∀ args w, (callFunc Fe args).run Tryz.prog w = .ok (.enter Fe args) w) (entG : ∀ args w, (callFunc Fg args).run Tryz.prog w = .ok (.enter Fg args) w)
    (hgrow : ∀ w' lo n a xs, w'.heap[c2]? = w.heap[c2]? → c2 < w'.heap.size → w'.heap[b]? = some (.cells (cs.setIfInBounds o a) t (0, 0)) → w'.ownsRow lo et 1 a n xs → a.ownBlock ≠ some c2 → lo ≤ w'.heap.size → n ≤ 1000000000000 → Calls Tryz.prog Fg #[.pointer (some ⟨c2, 0, none⟩)] w' fun e w'' => e = .returned (.tuple #[]) ∧ ∃ F cap, Grw w' w'' b o t et 1 lo (cs.setIfInBounds o a) a n xs [z] (.slice (some ⟨F, 0, none⟩) (n + 1) cap))
    (heach : ∀ (w' : World) (F i n cap : Nat), w'.heap[c]? = w.heap[c]? → w'.cell? ⟨b, o, none⟩ = some (.slice (some ⟨F, 0, none⟩) n cap) → i < n → n ≤ 1000000000000 → Calls Tryz.prog Fe #[.int .i64 (i : Int), .pointer (some ⟨c, 0, none⟩)] w' fun e w'' => ∃ u, e = .returned u ∧ w'' = w' ∧ P F i u)
    (hleaf : ∀ w' q F i cur u, P F i u → Rdr w' n0 R v bs q → w'.heap[F]? = some (.cells cur et (0, 0)) → i < cur.size → n0 ≤ F → F ≠ R → Calls Tryz.prog 38 #[.pointer (some ⟨R, 0, none⟩), u] w' fun e w'' => Cans n0 R v bs F i et cur w' w'' (f q) e (fun n u _ => u = val n)) :
    Calls Tryz.prog 38 #[.pointer (some ⟨R, 0, none⟩), .iface 106 (.agg #[.int .i64 cnt, .func (.func Fe) #[] #[.pointer (some ⟨c, 0, none⟩)], .func (.func Fg) #[] #[.pointer (some ⟨c2, 0, none⟩)]])] w
      fun e w' => Cans n0 R v bs b o t cs w w' (Im.listP bs f p) e (fun xs u w' => w'.ownsRow w.heap.size et 1 u xs.length (xs.map val)) := by
  have hRl := Kg.heap_lt h.b
  have hbl := Kg.heap_lt hB
  have hos : o < cs.size := by
    rcases Nat.lt_or_ge o cs.size with h1 | h1
    · exact h1
    · rw [Array.getElem?_eq_none h1] at hv; cases hv
  have hlo := h.lo
  -- what holds ahead of the i-th thing
  let J : World → Nat → Nat → World → Prop := fun W N i w' => Below w.heap.size w W ∧ Kg.Touch [R, b] W w' ∧ N ≤ 1000000000000 ∧ ∃ p1 r xs a, Im.many bs p = .ok (N, p1) ∧ Im.rep f i p1 = .ok (xs, r) ∧ xs.length = i ∧ Rdr w' n0 R v bs r ∧ w'.heap[b]? = some (.cells (cs.setIfInBounds o a) t (0, 0)) ∧ w'.ownsRow W.heap.size et 1 a i (xs.map val)
  let G : World → Nat → Nat → World → Prop := fun W N i w' => Below w.heap.size w W ∧ Kg.Touch [R, b] W w' ∧ N ≤ 1000000000000 ∧ i < N ∧ ∃ p1 r xs F cap, Im.many bs p = .ok (N, p1) ∧ Im.rep f i p1 = .ok (xs, r) ∧ xs.length = i ∧ Rdr w' n0 R v bs r ∧ w'.heap[b]? = some (.cells (cs.setIfInBounds o (.slice (some ⟨F, 0, none⟩) (i + 1) cap)) t (0, 0)) ∧ w'.ownsRow W.heap.size et 1 (.slice (some ⟨F, 0, none⟩) (i + 1) cap) (i + 1) (xs.map val ++ [z])
  let H : World → Nat → Nat → Value → World → Prop := fun W N i u w' => Below w.heap.size w W ∧ Kg.Touch [R, b] W w' ∧ N ≤ 1000000000000 ∧ i < N ∧ ∃ p1 r xs F cap, Im.many bs p = .ok (N, p1) ∧ Im.rep f i p1 = .ok (xs, r) ∧ xs.length = i ∧ Rdr w' n0 R v bs r ∧ w'.heap[b]? = some (.cells (cs.setIfInBounds o (.slice (some ⟨F, 0, none⟩) (i + 1) cap)) t (0, 0)) ∧ w'.ownsRow W.heap.size et 1 (.slice (some ⟨F, 0, none⟩) (i + 1) cap) (i + 1) (xs.map val ++ [z]) ∧ P F i u
  let E : List PanicEntry → World → Prop := fun ch w' => Kg.Touch [R, b] w w' ∧ ∃ pl k, Im.listP bs f p = .error (pl, k) ∧ ch = thrown (pl : Int) (k : Int)
  have up : ∀ {W w' : World}, Below w.heap.size w W → Kg.Touch [R, b] W w' → Kg.Touch [R, b] w w' := fun hW t => (Kg.Touch.of_below hW _).trans t
  refine (rd_list (b := b) J G H E hRl hbl entE entG ?_ (fun _ _ _ _ hj => hj.2.1) (fun _ _ _ _ hg => hg.2.1) ?_ ?_ ?_).mono ?_
  · intro W hW
    refine (count_any (h.below hW) hby).mono ?_
    rintro e w' ⟨t1, h1⟩
    have T1 : Kg.Touch [R, b] W w' := t1.mono (fun k hk => .inl (by simp only [List.mem_cons, List.not_mem_nil, or_false] at hk ⊢; exact .inl hk))
    rcases hm : Im.many bs p with ⟨pl, k⟩ | ⟨N, p1⟩
    · rw [hm] at h1
      exact .inr ⟨_, h1, up hW T1, pl, k, listP_cnt hm, rfl⟩
    · rw [hm] at h1
      obtain ⟨⟨hN, rfl⟩, hr⟩ := h1
      refine .inl ⟨N, hN, rfl, hW, T1, hN, p1, p1, [], .slice none 0 0, hm, rfl, rfl, hr, ?_, World.ownsRow_nil _ _ _ _⟩
      have hs : cs.setIfInBounds o (.slice none 0 0) = cs := by
        apply Array.ext'
        rw [Array.toList_setIfInBounds]
        exact set_self (by simpa using hv)
      rw [hs, t1.block b (by have := hW.size; omega) (by simp [hbR]), hW.block b hbl]
      exact hB
  · rintro W N i w' hiN ⟨hW, T, hN, p1, r, xs, a, hm, hrep, hxl, hr, hb', ho'⟩
    have hsz := hW.size
    have hWs := T.size
    refine (hgrow w' W.heap.size i a (xs.map val) ((T.block c2 (by omega) (by simp [h2R, h2b])).trans (hW.block c2 h2l)) (by omega) hb' ho' (fun e => by have := (ho'.lt _ e).1; omega) hWs (by omega)).mono ?_
    rintro e w'' ⟨rfl, F, cap, hg⟩
    have T2 : Kg.Touch [R, b] W w'' := T.then hg.t (fun k hk => by
      simp only [List.mem_cons, Option.mem_toList] at hk
      rcases hk with rfl | hk
      · exact .inl (by simp)
      · exact .inr (ho'.lt k hk).1)
    have hRa : R ∉ (b :: a.ownBlock.toList) := by
      simp only [List.mem_cons, Option.mem_toList, not_or]
      exact ⟨fun e => hbR e.symm, fun e => by have := (ho'.lt _ e).1; omega⟩
    refine ⟨rfl, hW, T2, hN, hiN, p1, r, xs, F, cap, hm, hrep, hxl, ⟨?_, hr.l.below (hg.t.below (by omega) (fun k hk => ?_)), hr.lo, hr.le, hr.n⟩, ?_, hg.r⟩
    · rw [hg.t.block R (Kg.heap_lt hr.b) hRa]
      exact hr.b
    · simp only [List.mem_cons, Option.mem_toList] at hk
      rcases hk with rfl | hk
      · exact hn
      · have := (ho'.lt k hk).1; omega
    · rw [hg.h]
      simp
  · rintro W N i w' ⟨hW, T, hN, hiN, p1, r, xs, F, cap, hm, hrep, hxl, hr, hb', ho'⟩
    have hsz := hW.size
    refine (heach w' F i (i + 1) cap ((T.block c (by omega) (by simp [hcR, hcb])).trans (hW.block c hcl)) ?_ (by omega) (by omega)).mono ?_
    · rw [Kg.heap_cell hb' o]
      simp [hos]
    · rintro e w'' ⟨u, rfl, rfl, hP⟩
      exact ⟨u, rfl, hW, T, hN, hiN, p1, r, xs, F, cap, hm, hrep, hxl, hr, hb', ho', hP⟩
  · rintro W N i u w' ⟨hW, T, hN, hiN, p1, r, xs, F, cap, hm, hrep, hxl, hr, hb', ho', hP⟩
    have hsz := hW.size
    have hFl := ho'.lt F rfl
    have hFR : F ≠ R := by omega
    obtain ⟨cur, hF⟩ : ∃ cur, w'.heap[F]? = some (.cells cur et (0, 0)) := by
      rcases ho'.2 with ⟨h1, _⟩ | ⟨g, cp, cu, e1, _, hg, _⟩
      · cases h1
      · cases e1; exact ⟨cu, hg⟩
    have hic : i < cur.size := by
      rcases ho'.2 with ⟨h1, _⟩ | ⟨g, cp, cu, e1, _, hg, hn', _, hs, _⟩
      · cases h1
      · cases e1
        rw [hF] at hg
        cases hg
        omega
    refine (hleaf w' r F i cur u hP hr hF hic (by omega) hFR).mono ?_
    rintro e w'' ⟨t2, h2⟩
    have T2 : Kg.Touch [R, b] W w'' := T.then t2 (fun k hk => by
      simp only [List.mem_cons, List.not_mem_nil, or_false] at hk
      rcases hk with rfl | rfl
      · exact .inl (by simp)
      · exact .inr hFl.1)
    rcases hf : f r with ⟨pl, k⟩ | ⟨x, r'⟩
    · rw [hf] at h2
      exact .inr ⟨_, h2, up hW T2, pl, k, listP_err hm (rep_err i p1 r N xs _ hrep hf hiN), rfl⟩
    · rw [hf] at h2
      obtain ⟨rfl, hr2, u2, hF2, rfl⟩ := h2
      refine .inl ⟨rfl, hW, T2, hN, p1, r', xs ++ [x], .slice (some ⟨F, 0, none⟩) (i + 1) cap, hm, rep_snoc i p1 r r' xs x hrep hf, by simp [hxl], hr2, ?_, ?_⟩
      · have hbF : b ≠ F := fun e => by rw [← e, hb'] at hF; cases hF; exact hte rfl
        rw [t2.block b (Kg.heap_lt hb') (by simp [hbR, hbF])]
        exact hb'
      · have := row_last (u := val x) ho' hF hF2
        simpa using this
  · rintro e w' (⟨rfl, W, hW, N, -, T, hN, p1, r, xs, a, hm, hrep, hxl, hr, hb', ho'⟩ | ⟨ch, rfl, t, pl, k, he, rfl⟩)
    · refine ⟨up hW T, ?_⟩
      rw [listP_ok hm hrep]
      refine ⟨rfl, hr, a, hb', ?_⟩
      show w'.ownsRow w.heap.size et 1 a xs.length (xs.map val)
      rw [hxl]
      exact Kg.row_base ho' hW.size
    · refine ⟨t, ?_⟩
      rw [he]

end Go.Proofs.YtblbiikfipcbcaaGreatDoor

/-
  Images, the reader: lists of things of one cell each, numbers or lists themselves.
-/
set_option linter.unusedVariables false
set_option maxRecDepth 20000
namespace Go.Proofs.YtblbiikfipcbcaaGreatDoor
open Go.RowKit Go.Shelf

set_option maxHeartbeats 4000000 in
/-- A list of things of one cell each. -/
theorem rd_nest {w : World} {n0 R p b o t c c2 Fe Fg et : Nat} {cnt : Int} {v : Value} {bs : List Nat} {cs : Array Value} {α : Type} (f : Im.Ps α) (V : α → Value → World → Prop) (z : Value) (P : Nat → Nat → Value → World → Prop) (Ts : List Nat)
    (h : Rdr w n0 R v bs p) (hby : ∀ x, x ∈ bs → x < 256) (hB : w.heap[b]? = some (.cells cs t (0, 0))) (hv : cs[o]? = some (.slice none 0 0)) (hn : n0 ≤ b) (hbR : b ≠ R) (hte : t ≠ et) (hRT : 70 ∉ Ts) (htT : t ∉ Ts) (heT : et ∉ Ts) (hst : ∀ x u w1 w2 G, V x u w1 → Kg.Touch G w1 w2 → (∀ k, k ∈ G → ∀ cs t', w1.heap[k]? = some (.cells cs t' (0, 0)) → t' ∉ Ts) → V x u w2)
    (hcl : c < w.heap.size) (hcR : c ≠ R) (hcb : c ≠ b) (h2l : c2 < w.heap.size) (h2R : c2 ≠ R) (h2b : c2 ≠ b)
    (entE : ∀ args w, (callFunc Fe args).run Tryz.prog w = .ok (.enter Fe args) w) (entG : ∀ args w, (callFunc Fg args).run Tryz.prog w = .ok (.enter Fg args) w)
    (hgrow : ∀ w' lo n a xs, w'.heap[c2]? = w.heap[c2]? → c2 < w'.heap.size → w'.heap[b]? = some (.cells (cs.setIfInBounds o a) t (0, 0)) → w'.ownsRow lo et 1 a n xs → a.ownBlock ≠ some c2 → lo ≤ w'.heap.size → n ≤ 1000000000000 → Calls Tryz.prog Fg #[.pointer (some ⟨c2, 0, none⟩)] w' fun e w'' => e = .returned (.tuple #[]) ∧ ∃ F cap, Grw w' w'' b o t et 1 lo (cs.setIfInBounds o a) a n xs [z] (.slice (some ⟨F, 0, none⟩) (n + 1) cap))
    (heach : ∀ (w' : World) (F i n cap : Nat), w'.heap[c]? = w.heap[c]? → w'.cell? ⟨b, o, none⟩ = some (.slice (some ⟨F, 0, none⟩) n cap) → i < n → n ≤ 1000000000000 → w'.cell? ⟨F, i, none⟩ = some z → F < w'.heap.size → F ≠ R → R < w'.heap.size → Calls Tryz.prog Fe #[.int .i64 (i : Int), .pointer (some ⟨c, 0, none⟩)] w' fun e w'' => ∃ u, e = .returned u ∧ Below w'.heap.size w' w'' ∧ P F i u w'')
    (hleaf : ∀ w' q F i cur u, P F i u w' → Rdr w' n0 R v bs q → w'.heap[F]? = some (.cells cur et (0, 0)) → cur[i]? = some z → n0 ≤ F → F ≠ R → Calls Tryz.prog 38 #[.pointer (some ⟨R, 0, none⟩), u] w' fun e w'' => Cans n0 R v bs F i et cur w' w'' (f q) e V) :
    Calls Tryz.prog 38 #[.pointer (some ⟨R, 0, none⟩), .iface 106 (.agg #[.int .i64 cnt, .func (.func Fe) #[] #[.pointer (some ⟨c, 0, none⟩)], .func (.func Fg) #[] #[.pointer (some ⟨c2, 0, none⟩)]])] w
      fun e w' => Cans n0 R v bs b o t cs w w' (Im.listP bs f p) e (fun xs u w' => ∃ us, us.length = xs.length ∧ w'.ownsRow w.heap.size et 1 u xs.length us ∧ ∀ (j : Nat) x y, xs[j]? = some x → us[j]? = some y → V x y w') := by
  have hRl := Kg.heap_lt h.b
  have hbl := Kg.heap_lt hB
  have hos : o < cs.size := by
    rcases Nat.lt_or_ge o cs.size with h1 | h1
    · exact h1
    · rw [Array.getElem?_eq_none h1] at hv; cases hv
  have hlo := h.lo
  -- what holds ahead of the i-th thing
  let J : World → Nat → Nat → World → Prop := fun W N i w' => Below w.heap.size w W ∧ Kg.Touch [R, b] W w' ∧ N ≤ 1000000000000 ∧ ∃ p1 r xs us a, Im.many bs p = .ok (N, p1) ∧ Im.rep f i p1 = .ok (xs, r) ∧ xs.length = i ∧ Rdr w' n0 R v bs r ∧ w'.heap[b]? = some (.cells (cs.setIfInBounds o a) t (0, 0)) ∧ w'.ownsRow W.heap.size et 1 a i us ∧ ∀ (j : Nat) x y, xs[j]? = some x → us[j]? = some y → V x y w'
  let G : World → Nat → Nat → World → Prop := fun W N i w' => Below w.heap.size w W ∧ Kg.Touch [R, b] W w' ∧ N ≤ 1000000000000 ∧ i < N ∧ ∃ p1 r xs us F cap, Im.many bs p = .ok (N, p1) ∧ Im.rep f i p1 = .ok (xs, r) ∧ xs.length = i ∧ Rdr w' n0 R v bs r ∧ w'.heap[b]? = some (.cells (cs.setIfInBounds o (.slice (some ⟨F, 0, none⟩) (i + 1) cap)) t (0, 0)) ∧ w'.ownsRow W.heap.size et 1 (.slice (some ⟨F, 0, none⟩) (i + 1) cap) (i + 1) (us ++ [z]) ∧ ∀ (j : Nat) x y, xs[j]? = some x → us[j]? = some y → V x y w'
  let H : World → Nat → Nat → Value → World → Prop := fun W N i u w' => Below w.heap.size w W ∧ Kg.Touch [R, b] W w' ∧ N ≤ 1000000000000 ∧ i < N ∧ ∃ p1 r xs us F cap, Im.many bs p = .ok (N, p1) ∧ Im.rep f i p1 = .ok (xs, r) ∧ xs.length = i ∧ Rdr w' n0 R v bs r ∧ w'.heap[b]? = some (.cells (cs.setIfInBounds o (.slice (some ⟨F, 0, none⟩) (i + 1) cap)) t (0, 0)) ∧ w'.ownsRow W.heap.size et 1 (.slice (some ⟨F, 0, none⟩) (i + 1) cap) (i + 1) (us ++ [z]) ∧ P F i u w' ∧ ∀ (j : Nat) x y, xs[j]? = some x → us[j]? = some y → V x y w'
  let E : List PanicEntry → World → Prop := fun ch w' => Kg.Touch [R, b] w w' ∧ ∃ pl k, Im.listP bs f p = .error (pl, k) ∧ ch = thrown (pl : Int) (k : Int)
  have up : ∀ {W w' : World}, Below w.heap.size w W → Kg.Touch [R, b] W w' → Kg.Touch [R, b] w w' := fun hW t => (Kg.Touch.of_below hW _).trans t
  refine (rd_list (b := b) J G H E hRl hbl entE entG ?_ (fun _ _ _ _ hj => hj.2.1) (fun _ _ _ _ hg => hg.2.1) ?_ ?_ ?_).mono ?_
  · intro W hW
    refine (count_any (h.below hW) hby).mono ?_
    rintro e w' ⟨t1, h1⟩
    have T1 : Kg.Touch [R, b] W w' := t1.mono (fun k hk => .inl (by simp only [List.mem_cons, List.not_mem_nil, or_false] at hk ⊢; exact .inl hk))
    rcases hm : Im.many bs p with ⟨pl, k⟩ | ⟨N, p1⟩
    · rw [hm] at h1
      exact .inr ⟨_, h1, up hW T1, pl, k, listP_cnt hm, rfl⟩
    · rw [hm] at h1
      obtain ⟨⟨hN, rfl⟩, hr⟩ := h1
      refine .inl ⟨N, hN, rfl, hW, T1, hN, p1, p1, [], [], .slice none 0 0, hm, rfl, rfl, hr, ?_, World.ownsRow_nil _ _ _ _, fun j x y hx => by simp at hx⟩
      have hs : cs.setIfInBounds o (.slice none 0 0) = cs := by
        apply Array.ext'
        rw [Array.toList_setIfInBounds]
        exact set_self (by simpa using hv)
      rw [hs, t1.block b (by have := hW.size; omega) (by simp [hbR]), hW.block b hbl]
      exact hB
  · rintro W N i w' hiN ⟨hW, T, hN, p1, r, xs, us, a, hm, hrep, hxl, hr, hb', ho', hV⟩
    have hsz := hW.size
    have hWs := T.size
    refine (hgrow w' W.heap.size i a us ((T.block c2 (by omega) (by simp [h2R, h2b])).trans (hW.block c2 h2l)) (by omega) hb' ho' (fun e => by have := (ho'.lt _ e).1; omega) hWs (by omega)).mono ?_
    rintro e w'' ⟨rfl, F, cap, hg⟩
    have T2 : Kg.Touch [R, b] W w'' := T.then hg.t (fun k hk => by
      simp only [List.mem_cons, Option.mem_toList] at hk
      rcases hk with rfl | hk
      · exact .inl (by simp)
      · exact .inr (ho'.lt k hk).1)
    have hRa : R ∉ (b :: a.ownBlock.toList) := by
      simp only [List.mem_cons, Option.mem_toList, not_or]
      exact ⟨fun e => hbR e.symm, fun e => by have := (ho'.lt _ e).1; omega⟩
    refine ⟨rfl, hW, T2, hN, hiN, p1, r, xs, us, F, cap, hm, hrep, hxl, ⟨?_, hr.l.below (hg.t.below (by omega) (fun k hk => ?_)), hr.lo, hr.le, hr.n⟩, ?_, hg.r, fun j x y hx hy => hst x y w' w'' _ (hV j x y hx hy) hg.t (fun k hk cs' t' hk' => ?_)⟩
    · rw [hg.t.block R (Kg.heap_lt hr.b) hRa]
      exact hr.b
    · simp only [List.mem_cons, Option.mem_toList] at hk
      rcases hk with rfl | hk
      · exact hn
      · have := (ho'.lt k hk).1; omega
    · rw [hg.h]
      simp
    · simp only [List.mem_cons, Option.mem_toList] at hk
      rcases hk with rfl | hk
      · rw [hb'] at hk'
        cases hk'
        exact htT
      · rcases ho'.2 with ⟨h1, _⟩ | ⟨g, cp, cu, e1, _, hg', _⟩
        · rw [h1] at hk; cases hk
        · rw [e1] at hk
          cases hk
          rw [hg'] at hk'
          cases hk'
          exact heT
  · rintro W N i w' ⟨hW, T, hN, hiN, p1, r, xs, us, F, cap, hm, hrep, hxl, hr, hb', ho', hV⟩
    have hsz := hW.size
    have hul : us.length = i := by have := ho'.1; simp at this; exact this
    have hFl := ho'.lt F rfl
    refine (heach w' F i (i + 1) cap ((T.block c (by omega) (by simp [hcR, hcb])).trans (hW.block c hcl)) ?_ (by omega) (by omega) ?_ hFl.2 (by omega) (Kg.heap_lt hr.b)).mono ?_
    · rw [Kg.heap_cell hb' o]
      simp [hos]
    · rw [ho'.cellAt i (by omega), List.getElem?_append_right (by omega), hul, Nat.sub_self]
      rfl
    · rintro e w'' ⟨u, rfl, b2, hP⟩
      have t2 := Kg.Touch.of_below b2 []
      exact ⟨u, rfl, hW, T.trans (Kg.Touch.of_below b2 _), hN, hiN, p1, r, xs, us, F, cap, hm, hrep, hxl, hr.below b2, (t2.block b (Kg.heap_lt hb') (by simp)).trans hb', Kg.row_keep2 ho' t2 (fun k _ => by simp), hP, fun j x y hx hy => hst x y w' w'' [] (hV j x y hx hy) t2 (fun k hk => by simp at hk)⟩
  · rintro W N i u w' ⟨hW, T, hN, hiN, p1, r, xs, us, F, cap, hm, hrep, hxl, hr, hb', ho', hP, hV⟩
    have hsz := hW.size
    have hFl := ho'.lt F rfl
    have hFR : F ≠ R := by omega
    obtain ⟨cur, hF⟩ : ∃ cur, w'.heap[F]? = some (.cells cur et (0, 0)) := by
      rcases ho'.2 with ⟨h1, _⟩ | ⟨g, cp, cu, e1, _, hg, _⟩
      · cases h1
      · cases e1; exact ⟨cu, hg⟩
    have hul : us.length = i := by have := ho'.1; simp at this; exact this
    have hic : cur[i]? = some z := by
      have h1 := ho'.cellAt i (by omega)
      rw [Kg.heap_cell hF i] at h1
      rw [h1, List.getElem?_append_right (by omega), hul, Nat.sub_self]
      rfl
    refine (hleaf w' r F i cur u hP hr hF hic (by omega) hFR).mono ?_
    rintro e w'' ⟨t2, h2⟩
    have T2 : Kg.Touch [R, b] W w'' := T.then t2 (fun k hk => by
      simp only [List.mem_cons, List.not_mem_nil, or_false] at hk
      rcases hk with rfl | rfl
      · exact .inl (by simp)
      · exact .inr hFl.1)
    rcases hf : f r with ⟨pl, k⟩ | ⟨x, r'⟩
    · rw [hf] at h2
      exact .inr ⟨_, h2, up hW T2, pl, k, listP_err hm (rep_err i p1 r N xs _ hrep hf hiN), rfl⟩
    · rw [hf] at h2
      obtain ⟨rfl, hr2, u2, hF2, hu2⟩ := h2
      refine .inl ⟨rfl, hW, T2, hN, p1, r', xs ++ [x], us ++ [u2], .slice (some ⟨F, 0, none⟩) (i + 1) cap, hm, rep_snoc i p1 r r' xs x hrep hf, by simp [hxl], hr2, ?_, row_last (u := u2) ho' hF hF2, fun j x' y' hx' hy' => ?_⟩
      · have hbF : b ≠ F := fun e => by rw [← e, hb'] at hF; cases hF; exact hte rfl
        rw [t2.block b (Kg.heap_lt hb') (by simp [hbR, hbF])]
        exact hb'
      · by_cases hj : j < i
        · rw [List.getElem?_append_left (by omega)] at hx' hy'
          refine hst x' y' w' w'' _ (hV j x' y' hx' hy') t2 (fun k hk cs' t' hk' => ?_)
          simp only [List.mem_cons, List.not_mem_nil, or_false] at hk
          rcases hk with rfl | rfl
          · rw [hr.b] at hk'
            cases hk'
            exact hRT
          · rw [hF] at hk'
            cases hk'
            exact heT
        · have e1 := (List.getElem?_eq_some_iff.1 hx').1
          rw [List.length_append] at e1
          simp at e1
          have e2 : j = i := by omega
          subst e2
          rw [List.getElem?_append_right (by omega), hxl, Nat.sub_self] at hx'
          rw [List.getElem?_append_right (by omega), hul, Nat.sub_self] at hy'
          simp at hx' hy'
          subst hx' hy'
          exact hu2
  · rintro e w' (⟨rfl, W, hW, N, -, T, hN, p1, r, xs, us, a, hm, hrep, hxl, hr, hb', ho', hV⟩ | ⟨ch, rfl, t, pl, k, he, rfl⟩)
    · refine ⟨up hW T, ?_⟩
      rw [listP_ok hm hrep]
      refine ⟨rfl, hr, a, hb', ?_⟩
      have hul : us.length = N := by have := ho'.1; simpa using this
      exact ⟨us, by omega, by rw [hxl]; exact Kg.row_base ho' hW.size, hV⟩
    · refine ⟨t, ?_⟩
      rw [he]

end Go.Proofs.YtblbiikfipcbcaaGreatDoor

/-
  Images, the reader: parts that are lists, told whole; lists of numbers and of such lists.
-/
set_option linter.unusedVariables false
set_option maxRecDepth 20000
namespace Go.Proofs.YtblbiikfipcbcaaGreatDoor
open Go.RowKit Go.Shelf

/-- A part that is a list, with its two boxes, which are new. -/
def lpart (cnt : Int) (Fe Fg c c2 : Nat) : Value := .iface 106 (.agg #[.int .i64 cnt, .func (.func Fe) #[] #[.pointer (some ⟨c, 0, none⟩)], .func (.func Fg) #[] #[.pointer (some ⟨c2, 0, none⟩)]])

set_option maxHeartbeats 4000000 in
theorem listO_ex (w : World) (b o F c n cap : Nat) (a : Option Addr) (hb : b < w.heap.size) (hc : w.cell? ⟨b, o, none⟩ = some (.slice a n cap)) :
    Calls Tryz.prog 50 #[.pointer (some ⟨b, o, none⟩), .func (.func F) #[] #[.pointer (some ⟨c, 0, none⟩)]] w fun e w' => ∃ c2, e = .returned (lpart n F 65 c c2) ∧ Below w.heap.size w w' ∧ w.heap.size ≤ c2 ∧ c2 < w'.heap.size ∧ w'.cell? ⟨c2, 0, none⟩ = some (.pointer (some ⟨b, o, none⟩)) := by
  go_enter Tryz.func50, Tryz.ntmps50
  go_upto_region 1 with fail
  have hb1 : Below w.heap.size w (w.alloc (.cells #[.pointer (some ⟨b, o, none⟩)] 110)) := Below.alloc (Below.refl _ _) (Nat.le_refl _) _
  have hx0 := (Kg.heap_cell (heap_alloc_new w (.cells #[.pointer (some ⟨b, o, none⟩)] 110 (0, 0))) 0).trans (show _ = some (.pointer (some ⟨b, o, none⟩)) from rfl)
  have hcl := (hb1.cell (p := ⟨b, o, none⟩) hb).trans hc
  have hs1 : (w.alloc (.cells #[.pointer (some ⟨b, o, none⟩)] 110)).heap.size = w.heap.size + 1 := by simp
  have HB : Hid (Below w.heap.size w (w.alloc (.cells #[.pointer (some ⟨b, o, none⟩)] 110))) := hb1
  clear hc hb1
  generalize w.alloc (.cells #[.pointer (some ⟨b, o, none⟩)] 110) = W at *
  go_wp2
  go_ret
  exact ⟨w.heap.size, rfl, HB.out, Nat.le_refl _, by omega, hx0⟩

set_option maxHeartbeats 4000000 in
theorem listF_ex (w : World) (b o F c n cap : Nat) (a : Option Addr) (hb : b < w.heap.size) (hc : w.cell? ⟨b, o, none⟩ = some (.slice a n cap)) :
    Calls Tryz.prog 53 #[.pointer (some ⟨b, o, none⟩), .func (.func F) #[] #[.pointer (some ⟨c, 0, none⟩)]] w fun e w' => ∃ c2, e = .returned (lpart n F 68 c c2) ∧ Below w.heap.size w w' ∧ w.heap.size ≤ c2 ∧ c2 < w'.heap.size ∧ w'.cell? ⟨c2, 0, none⟩ = some (.pointer (some ⟨b, o, none⟩)) := by
  go_enter Tryz.func53, Tryz.ntmps53
  go_upto_region 1 with fail
  have hb1 : Below w.heap.size w (w.alloc (.cells #[.pointer (some ⟨b, o, none⟩)] 113)) := Below.alloc (Below.refl _ _) (Nat.le_refl _) _
  have hx0 := (Kg.heap_cell (heap_alloc_new w (.cells #[.pointer (some ⟨b, o, none⟩)] 113 (0, 0))) 0).trans (show _ = some (.pointer (some ⟨b, o, none⟩)) from rfl)
  have hcl := (hb1.cell (p := ⟨b, o, none⟩) hb).trans hc
  have hs1 : (w.alloc (.cells #[.pointer (some ⟨b, o, none⟩)] 113)).heap.size = w.heap.size + 1 := by simp
  have HB : Hid (Below w.heap.size w (w.alloc (.cells #[.pointer (some ⟨b, o, none⟩)] 113))) := hb1
  clear hc hb1
  generalize w.alloc (.cells #[.pointer (some ⟨b, o, none⟩)] 113) = W at *
  go_wp2
  go_ret
  exact ⟨w.heap.size, rfl, HB.out, Nat.le_refl _, by omega, hx0⟩

set_option maxHeartbeats 4000000 in
theorem listI_ex (w : World) (b o F c n cap : Nat) (a : Option Addr) (hb : b < w.heap.size) (hc : w.cell? ⟨b, o, none⟩ = some (.slice a n cap)) :
    Calls Tryz.prog 56 #[.pointer (some ⟨b, o, none⟩), .func (.func F) #[] #[.pointer (some ⟨c, 0, none⟩)]] w fun e w' => ∃ c2, e = .returned (lpart n F 71 c c2) ∧ Below w.heap.size w w' ∧ w.heap.size ≤ c2 ∧ c2 < w'.heap.size ∧ w'.cell? ⟨c2, 0, none⟩ = some (.pointer (some ⟨b, o, none⟩)) := by
  go_enter Tryz.func56, Tryz.ntmps56
  go_upto_region 1 with fail
  have hb1 : Below w.heap.size w (w.alloc (.cells #[.pointer (some ⟨b, o, none⟩)] 117)) := Below.alloc (Below.refl _ _) (Nat.le_refl _) _
  have hx0 := (Kg.heap_cell (heap_alloc_new w (.cells #[.pointer (some ⟨b, o, none⟩)] 117 (0, 0))) 0).trans (show _ = some (.pointer (some ⟨b, o, none⟩)) from rfl)
  have hcl := (hb1.cell (p := ⟨b, o, none⟩) hb).trans hc
  have hs1 : (w.alloc (.cells #[.pointer (some ⟨b, o, none⟩)] 117)).heap.size = w.heap.size + 1 := by simp
  have HB : Hid (Below w.heap.size w (w.alloc (.cells #[.pointer (some ⟨b, o, none⟩)] 117))) := hb1
  clear hc hb1
  generalize w.alloc (.cells #[.pointer (some ⟨b, o, none⟩)] 117) = W at *
  go_wp2
  go_ret
  exact ⟨w.heap.size, rfl, HB.out, Nat.le_refl _, by omega, hx0⟩

set_option maxHeartbeats 4000000 in
theorem listU_ex (w : World) (b o F c n cap : Nat) (a : Option Addr) (hb : b < w.heap.size) (hc : w.cell? ⟨b, o, none⟩ = some (.slice a n cap)) :
    Calls Tryz.prog 66 #[.pointer (some ⟨b, o, none⟩), .func (.func F) #[] #[.pointer (some ⟨c, 0, none⟩)]] w fun e w' => ∃ c2, e = .returned (lpart n F 78 c c2) ∧ Below w.heap.size w w' ∧ w.heap.size ≤ c2 ∧ c2 < w'.heap.size ∧ w'.cell? ⟨c2, 0, none⟩ = some (.pointer (some ⟨b, o, none⟩)) := by
  go_enter Tryz.func66, Tryz.ntmps66
  go_upto_region 1 with fail
  have hb1 : Below w.heap.size w (w.alloc (.cells #[.pointer (some ⟨b, o, none⟩)] 126)) := Below.alloc (Below.refl _ _) (Nat.le_refl _) _
  have hx0 := (Kg.heap_cell (heap_alloc_new w (.cells #[.pointer (some ⟨b, o, none⟩)] 126 (0, 0))) 0).trans (show _ = some (.pointer (some ⟨b, o, none⟩)) from rfl)
  have hcl := (hb1.cell (p := ⟨b, o, none⟩) hb).trans hc
  have hs1 : (w.alloc (.cells #[.pointer (some ⟨b, o, none⟩)] 126)).heap.size = w.heap.size + 1 := by simp
  have HB : Hid (Below w.heap.size w (w.alloc (.cells #[.pointer (some ⟨b, o, none⟩)] 126))) := hb1
  clear hc hb1
  generalize w.alloc (.cells #[.pointer (some ⟨b, o, none⟩)] 126) = W at *
  go_wp2
  go_ret
  exact ⟨w.heap.size, rfl, HB.out, Nat.le_refl _, by omega, hx0⟩

set_option maxHeartbeats 4000000 in
theorem listS_ex (w : World) (b o F c n cap : Nat) (a : Option Addr) (hb : b < w.heap.size) (hc : w.cell? ⟨b, o, none⟩ = some (.slice a n cap)) :
    Calls Tryz.prog 69 #[.pointer (some ⟨b, o, none⟩), .func (.func F) #[] #[.pointer (some ⟨c, 0, none⟩)]] w fun e w' => ∃ c2, e = .returned (lpart n F 79 c c2) ∧ Below w.heap.size w w' ∧ w.heap.size ≤ c2 ∧ c2 < w'.heap.size ∧ w'.cell? ⟨c2, 0, none⟩ = some (.pointer (some ⟨b, o, none⟩)) := by
  go_enter Tryz.func69, Tryz.ntmps69
  go_upto_region 1 with fail
  have hb1 : Below w.heap.size w (w.alloc (.cells #[.pointer (some ⟨b, o, none⟩)] 115)) := Below.alloc (Below.refl _ _) (Nat.le_refl _) _
  have hx0 := (Kg.heap_cell (heap_alloc_new w (.cells #[.pointer (some ⟨b, o, none⟩)] 115 (0, 0))) 0).trans (show _ = some (.pointer (some ⟨b, o, none⟩)) from rfl)
  have hcl := (hb1.cell (p := ⟨b, o, none⟩) hb).trans hc
  have hs1 : (w.alloc (.cells #[.pointer (some ⟨b, o, none⟩)] 115)).heap.size = w.heap.size + 1 := by simp
  have HB : Hid (Below w.heap.size w (w.alloc (.cells #[.pointer (some ⟨b, o, none⟩)] 115))) := hb1
  clear hc hb1
  generalize w.alloc (.cells #[.pointer (some ⟨b, o, none⟩)] 115) = W at *
  go_wp2
  go_ret
  exact ⟨w.heap.size, rfl, HB.out, Nat.le_refl _, by omega, hx0⟩

/-- The boxes of a list's part: both are new, and hold where the list lies. -/
structure Bx (w w' : World) (b o c c2 : Nat) : Prop where
  cg : w.heap.size ≤ c
  cl : c < w'.heap.size
  cc : w'.cell? ⟨c, 0, none⟩ = some (.pointer (some ⟨b, o, none⟩))
  dg : w.heap.size ≤ c2
  dl : c2 < w'.heap.size
  dc : w'.cell? ⟨c2, 0, none⟩ = some (.pointer (some ⟨b, o, none⟩))

set_option maxHeartbeats 4000000 in
theorem numbers_ex (w : World) (b o n cap : Nat) (a : Option Addr) (hb : b < w.heap.size) (hc : w.cell? ⟨b, o, none⟩ = some (.slice a n cap)) :
    Calls Tryz.prog 58 #[.pointer (some ⟨b, o, none⟩)] w fun e w' => ∃ c c2, e = .returned (lpart n 72 71 c c2) ∧ Below w.heap.size w w' ∧ Bx w w' b o c c2 := by
  go_enter Tryz.func58, Tryz.ntmps58
  go_upto_region 1 with fail
  have hb1 : Below w.heap.size w (w.alloc (.cells #[.pointer (some ⟨b, o, none⟩)] 117)) := Below.alloc (Below.refl _ _) (Nat.le_refl _) _
  have hx0 := (Kg.heap_cell (heap_alloc_new w (.cells #[.pointer (some ⟨b, o, none⟩)] 117 (0, 0))) 0).trans (show _ = some (.pointer (some ⟨b, o, none⟩)) from rfl)
  have hcl := (hb1.cell (p := ⟨b, o, none⟩) hb).trans hc
  have hs1 : (w.alloc (.cells #[.pointer (some ⟨b, o, none⟩)] 117)).heap.size = w.heap.size + 1 := by simp
  have HB : Hid (Below w.heap.size w (w.alloc (.cells #[.pointer (some ⟨b, o, none⟩)] 117))) := hb1
  clear hc hb1
  generalize w.alloc (.cells #[.pointer (some ⟨b, o, none⟩)] 117) = W at *
  have hC := listI_ex W b o 72 w.heap.size n cap a (by omega) hcl
  go_wp2_with fail
  refine hC.mono ?_
  rintro e w2 ⟨c2, rfl, b2, h1, h2, h3⟩
  have HF : Hid (Below w.heap.size w w2 ∧ Bx w w2 b o w.heap.size c2) := ⟨HB.out.trans (b2.mono HB.out.size), ⟨Nat.le_refl _, by have := b2.size; omega, (b2.cell (p := ⟨w.heap.size, 0, none⟩) (by show w.heap.size < W.heap.size; omega)).trans hx0, by omega, h2, h3⟩⟩
  clear hC b2 h1 h2 h3 hx0 hcl
  unfold lpart
  go_wp2
  go_ret
  exact ⟨w.heap.size, c2, rfl, HF.out.1, HF.out.2⟩

set_option maxHeartbeats 4000000 in
theorem frames_ex (w : World) (b o n cap : Nat) (a : Option Addr) (hb : b < w.heap.size) (hc : w.cell? ⟨b, o, none⟩ = some (.slice a n cap)) :
    Calls Tryz.prog 55 #[.pointer (some ⟨b, o, none⟩)] w fun e w' => ∃ c c2, e = .returned (lpart n 70 79 c c2) ∧ Below w.heap.size w w' ∧ Bx w w' b o c c2 := by
  go_enter Tryz.func55, Tryz.ntmps55
  go_upto_region 1 with fail
  have hb1 : Below w.heap.size w (w.alloc (.cells #[.pointer (some ⟨b, o, none⟩)] 115)) := Below.alloc (Below.refl _ _) (Nat.le_refl _) _
  have hx0 := (Kg.heap_cell (heap_alloc_new w (.cells #[.pointer (some ⟨b, o, none⟩)] 115 (0, 0))) 0).trans (show _ = some (.pointer (some ⟨b, o, none⟩)) from rfl)
  have hcl := (hb1.cell (p := ⟨b, o, none⟩) hb).trans hc
  have hs1 : (w.alloc (.cells #[.pointer (some ⟨b, o, none⟩)] 115)).heap.size = w.heap.size + 1 := by simp
  have HB : Hid (Below w.heap.size w (w.alloc (.cells #[.pointer (some ⟨b, o, none⟩)] 115))) := hb1
  clear hc hb1
  generalize w.alloc (.cells #[.pointer (some ⟨b, o, none⟩)] 115) = W at *
  have hC := listS_ex W b o 70 w.heap.size n cap a (by omega) hcl
  go_wp2_with fail
  refine hC.mono ?_
  rintro e w2 ⟨c2, rfl, b2, h1, h2, h3⟩
  have HF : Hid (Below w.heap.size w w2 ∧ Bx w w2 b o w.heap.size c2) := ⟨HB.out.trans (b2.mono HB.out.size), ⟨Nat.le_refl _, by have := b2.size; omega, (b2.cell (p := ⟨w.heap.size, 0, none⟩) (by show w.heap.size < W.heap.size; omega)).trans hx0, by omega, h2, h3⟩⟩
  clear hC b2 h1 h2 h3 hx0 hcl
  unfold lpart
  go_wp2
  go_ret
  exact ⟨w.heap.size, c2, rfl, HF.out.1, HF.out.2⟩

theorem growI_enters : ∀ args w, (callFunc 71 args).run Tryz.prog w = .ok (.enter 71 args) w := enters_of Tryz.func71 (by kernel_rfl) rfl
theorem growS_enters : ∀ args w, (callFunc 79 args).run Tryz.prog w = .ok (.enter 79 args) w := enters_of Tryz.func79 (by kernel_rfl) rfl
theorem growU_enters : ∀ args w, (callFunc 78 args).run Tryz.prog w = .ok (.enter 78 args) w := enters_of Tryz.func78 (by kernel_rfl) rfl
theorem growF_enters : ∀ args w, (callFunc 68 args).run Tryz.prog w = .ok (.enter 68 args) w := enters_of Tryz.func68 (by kernel_rfl) rfl

/-- A list of numbers lies in a row of its own. -/
def Vi (xs : List Nat) (u : Value) (w : World) : Prop := w.ownsRow 0 3 1 u xs.length (xs.map fun n : Nat => Value.int .i64 (n : Int))
theorem Vi.st (x : List Nat) (u : Value) (w1 w2 : World) (G : List Nat) (h : Vi x u w1) (t : Kg.Touch G w1 w2) (hG : ∀ k, k ∈ G → ∀ cs t', w1.heap[k]? = some (.cells cs t' (0, 0)) → t' ∉ [3]) : Vi x u w2 := by
  refine Kg.row_keep2 h t (fun k hk hm => ?_)
  rcases h.2 with ⟨h1, _⟩ | ⟨g, cp, cu, e1, _, hg, _⟩
  · rw [h1] at hk; cases hk
  · rw [e1] at hk
    cases hk
    exact hG _ hm _ _ hg (by simp)

theorem map_of {α : Type} {val : α → Value} {xs : List α} {us : List Value} (hl : us.length = xs.length) (h : ∀ (j : Nat) x y, xs[j]? = some x → us[j]? = some y → y = val x) : us = xs.map val := by
  apply List.ext_getElem?
  intro j
  rw [List.getElem?_map]
  by_cases hj : j < xs.length
  · have h1 : xs[j]? = some (xs[j]'hj) := List.getElem?_eq_getElem hj
    have h2 : us[j]? = some (us[j]'(by omega)) := List.getElem?_eq_getElem (by omega)
    rw [h1, h2, h j _ _ h1 h2]
    rfl
  · rw [List.getElem?_eq_none (by omega), List.getElem?_eq_none (by omega)]
    rfl

set_option maxHeartbeats 2000000 in
/-- A list of numbers. -/
theorem rd_ints {w : World} {n0 R p b o t c c2 : Nat} {cnt : Int} {v : Value} {bs : List Nat} {cs : Array Value} (h : Rdr w n0 R v bs p) (hby : ∀ x, x ∈ bs → x < 256) (hB : w.heap[b]? = some (.cells cs t (0, 0))) (hv : cs[o]? = some (.slice none 0 0)) (hn : n0 ≤ b) (hbR : b ≠ R) (hte : t ≠ 3)
    (hcl : c < w.heap.size) (hcR : c ≠ R) (hcb : c ≠ b) (h2l : c2 < w.heap.size) (h2R : c2 ≠ R) (h2b : c2 ≠ b) (hc : w.cell? ⟨c, 0, none⟩ = some (.pointer (some ⟨b, o, none⟩))) (hc2 : w.cell? ⟨c2, 0, none⟩ = some (.pointer (some ⟨b, o, none⟩))) :
    Calls Tryz.prog 38 #[.pointer (some ⟨R, 0, none⟩), lpart cnt 72 71 c c2] w fun e w' => Cans n0 R v bs b o t cs w w' (Im.listP bs (Im.number bs) p) e (fun xs u w' => Vi xs u w' ∧ ∀ k, u.ownBlock = some k → w.heap.size ≤ k) := by
  refine (rd_nest (Im.number bs) (fun n u _ => u = .int .i64 (n : Int)) (.int .i64 0) (fun F i u _ => u = .iface 97 (.agg #[.pointer (some ⟨F, i, none⟩)])) [] h hby hB hv hn hbR hte (by simp) (by simp) (by simp) (fun x u w1 w2 G hu _ _ => hu) hcl hcR hcb h2l h2R h2b numbers1_enters growI_enters ?_ ?_ ?_).mono ?_
  · intro w' lo n a xs e1 e2 e3 e4 e5 e6 e7
    exact growI_any e2 ((cell_blk e1 0).trans hc2) e3 (by have := (Array.getElem?_eq_some_iff.1 hv).1; simp [this]) e4 e5 hte e6 e7
  · intro w' F i n cap e1 e2 e3 e4 _ _ _ _
    refine (numbers1_any w' c b o i F 0 n cap ((cell_blk e1 0).trans hc) e2 e3 e4).mono ?_
    rintro e w'' ⟨rfl, rfl⟩
    exact ⟨_, rfl, Below.refl _ _, by rw [Nat.zero_add]⟩
  · rintro w' q F i cur u rfl hr hF hi hF0 hFR
    exact rd_number hr hby hF hi hF0 hFR
  · rintro e w' ⟨t1, h1⟩
    refine ⟨t1, ?_⟩
    rcases hx : Im.listP bs (Im.number bs) p with ⟨pl, k⟩ | ⟨xs, r⟩
    · rw [hx] at h1; exact h1
    · rw [hx] at h1
      obtain ⟨g1, g2, u, g3, us, g4, g5, g6⟩ := h1
      have e1 : us = xs.map fun n : Nat => Value.int .i64 (n : Int) := map_of g4 g6
      rw [e1] at g5
      exact ⟨g1, g2, u, g3, Kg.row_base g5 (Nat.zero_le _), fun k hk => (g5.lt k hk).1⟩

end Go.Proofs.YtblbiikfipcbcaaGreatDoor

/-
  Images, the reader: frames, slots, handles, raw fields.
-/
set_option linter.unusedVariables false
set_option maxRecDepth 20000
namespace Go.Proofs.YtblbiikfipcbcaaGreatDoor
open Go.RowKit Go.Shelf

/-- A row keeps, if no block of its kind is written. -/
theorem row_st {w1 w2 : World} {e n : Nat} {u : Value} {xs : List Value} {G : List Nat} (h : w1.ownsRow 0 e 1 u n xs) (t : Kg.Touch G w1 w2) (hG : ∀ k, k ∈ G → ∀ cs t', w1.heap[k]? = some (.cells cs t' (0, 0)) → t' ≠ e) : w2.ownsRow 0 e 1 u n xs := by
  refine Kg.row_keep2 h t (fun k hk hm => ?_)
  rcases h.2 with ⟨h1, _⟩ | ⟨g, cp, cu, e1, _, hg, _⟩
  · rw [h1] at hk; cases hk
  · rw [e1] at hk
    cases hk
    exact hG _ hm _ _ hg rfl

/-- A list of lists of numbers. -/
def Vf (fs : List (List Nat)) (u : Value) (w : World) : Prop := ∃ us, us.length = fs.length ∧ w.ownsRow 0 25 1 u fs.length us ∧ ∀ (j : Nat) x y, fs[j]? = some x → us[j]? = some y → Vi x y w
theorem Vf.st (x : List (List Nat)) (u : Value) (w1 w2 : World) (G : List Nat) (h : Vf x u w1) (t : Kg.Touch G w1 w2) (hG : ∀ k, k ∈ G → ∀ cs t', w1.heap[k]? = some (.cells cs t' (0, 0)) → t' ∉ [3, 25]) : Vf x u w2 := by
  obtain ⟨us, h1, h2, h3⟩ := h
  exact ⟨us, h1, row_st h2 t (fun k hk cs t' hc e => hG k hk cs t' hc (by simp [e])), fun j a y ha hy => Vi.st a y w1 w2 G (h3 j a y ha hy) t (fun k hk cs t' hc e => hG k hk cs t' hc (by simp at e; simp [e]))⟩
/-- A list of such lists. -/
def Vt (ts : List (List (List Nat))) (u : Value) (w : World) : Prop := ∃ us, us.length = ts.length ∧ w.ownsRow 0 33 1 u ts.length us ∧ ∀ (j : Nat) x y, ts[j]? = some x → us[j]? = some y → Vf x y w

/-- A list's part with boxes that lie apart from the reader and from where the list lies. -/
def PLs (R Fe Fg : Nat) (F i : Nat) (u : Value) (w : World) : Prop := ∃ c c2 cnt, u = lpart cnt Fe Fg c c2 ∧ c < w.heap.size ∧ c ≠ R ∧ c ≠ F ∧ c2 < w.heap.size ∧ c2 ≠ R ∧ c2 ≠ F ∧ w.cell? ⟨c, 0, none⟩ = some (.pointer (some ⟨F, i, none⟩)) ∧ w.cell? ⟨c2, 0, none⟩ = some (.pointer (some ⟨F, i, none⟩))

set_option maxHeartbeats 2000000 in
/-- Frames. -/
theorem rd_frames {w : World} {n0 R p b o t c c2 : Nat} {cnt : Int} {v : Value} {bs : List Nat} {cs : Array Value} (h : Rdr w n0 R v bs p) (hby : ∀ x, x ∈ bs → x < 256) (hB : w.heap[b]? = some (.cells cs t (0, 0))) (hv : cs[o]? = some (.slice none 0 0)) (hn : n0 ≤ b) (hbR : b ≠ R) (hte : t ≠ 25) (hti : t ≠ 3)
    (hcl : c < w.heap.size) (hcR : c ≠ R) (hcb : c ≠ b) (h2l : c2 < w.heap.size) (h2R : c2 ≠ R) (h2b : c2 ≠ b) (hc : w.cell? ⟨c, 0, none⟩ = some (.pointer (some ⟨b, o, none⟩))) (hc2 : w.cell? ⟨c2, 0, none⟩ = some (.pointer (some ⟨b, o, none⟩))) :
    Calls Tryz.prog 38 #[.pointer (some ⟨R, 0, none⟩), lpart cnt 70 79 c c2] w fun e w' => Cans n0 R v bs b o t cs w w' (Im.listP bs (Im.listP bs (Im.number bs)) p) e Vf := by
  refine (rd_nest (et := 25) (Im.listP bs (Im.number bs)) Vi (.slice none 0 0) (PLs R 72 71) [3] h hby hB hv hn hbR hte (by decide) (by simpa using hti) (by decide) Vi.st hcl hcR hcb h2l h2R h2b frames1_enters growS_enters ?_ ?_ ?_).mono ?_
  · intro w' lo n a xs e1 e2 e3 e4 e5 e6 e7
    exact growS_any e2 ((cell_blk e1 0).trans hc2) e3 (by have := (Array.getElem?_eq_some_iff.1 hv).1; simp [this]) e4 e5 hte e6 e7
  · intro w' F i n cap e1 e2 e3 e4 e5 e6 e7 e8
    refine (frames1_any w' c b o i F 0 n cap ((cell_blk e1 0).trans hc) e2 e3 e4 (fun w'' u => Below w'.heap.size w' w'' ∧ PLs R 72 71 F i u w'') ?_).mono (fun e w'' h => h)
    rw [Nat.zero_add]
    refine (numbers_ex w' F i 0 0 none e6 e5).mono ?_
    rintro e w'' ⟨c', c2', rfl, b2, bx⟩
    exact ⟨_, rfl, b2, c', c2', _, rfl, bx.cl, by have := bx.cg; omega, by have := bx.cg; omega, bx.dl, by have := bx.dg; omega, by have := bx.dg; omega, bx.cc, bx.dc⟩
  · rintro w' q F i cur u ⟨c', c2', cnt', rfl, a1, a2, a3, a4, a5, a6, a7, a8⟩ hr hF hi hF0 hFR
    refine (rd_ints hr hby hF hi hF0 hFR (by decide) a1 a2 a3 a4 a5 a6 a7 a8).mono ?_
    rintro e w'' ⟨t1, h1⟩
    refine ⟨t1, ?_⟩
    rcases hx : Im.listP bs (Im.number bs) q with ⟨pl, k⟩ | ⟨xs, r⟩
    · rw [hx] at h1; exact h1
    · rw [hx] at h1
      obtain ⟨g1, g2, u, g3, g4, -⟩ := h1
      exact ⟨g1, g2, u, g3, g4⟩
  · rintro e w' ⟨t1, h1⟩
    refine ⟨t1, ?_⟩
    rcases hx : Im.listP bs (Im.listP bs (Im.number bs)) p with ⟨pl, k⟩ | ⟨xs, r⟩
    · rw [hx] at h1; exact h1
    · rw [hx] at h1
      obtain ⟨g1, g2, u, g3, us, g4, g5, g6⟩ := h1
      exact ⟨g1, g2, u, g3, us, g4, Kg.row_base g5 (Nat.zero_le _), g6⟩

set_option maxHeartbeats 2000000 in
/-- Slots: their list lies in the graph's block B. -/
theorem rd_slots {w : World} {n0 R p b c c2 : Nat} {cnt : Int} {v : Value} {bs : List Nat} {cs : Array Value} (h : Rdr w n0 R v bs p) (hby : ∀ x, x ∈ bs → x < 256) (hB : w.heap[b]? = some (.cells cs 28 (0, 0))) (hv : cs[1]? = some (.slice none 0 0)) (hn : n0 ≤ b) (hbR : b ≠ R)
    (hcl : c < w.heap.size) (hcR : c ≠ R) (hcb : c ≠ b) (h2l : c2 < w.heap.size) (h2R : c2 ≠ R) (h2b : c2 ≠ b) (hc : w.cell? ⟨c, 0, none⟩ = some (.pointer (some ⟨b, 0, none⟩))) (hc2 : w.cell? ⟨c2, 0, none⟩ = some (.pointer (some ⟨b, 1, none⟩))) :
    Calls Tryz.prog 38 #[.pointer (some ⟨R, 0, none⟩), lpart cnt 54 68 c c2] w fun e w' => Cans n0 R v bs b 1 28 cs w w' (Im.listP bs (Im.listP bs (Im.listP bs (Im.number bs))) p) e Vt := by
  refine (rd_nest (et := 33) (Im.listP bs (Im.listP bs (Im.number bs))) Vf (.slice none 0 0) (PLs R 70 79) [3, 25] h hby hB hv hn hbR (by decide) (by decide) (by decide) (by decide) Vf.st hcl hcR hcb h2l h2R h2b parts2_enters growF_enters ?_ ?_ ?_).mono ?_
  · intro w' lo n a xs e1 e2 e3 e4 e5 e6 e7
    exact growF_any e2 ((cell_blk e1 0).trans hc2) e3 (by have := (Array.getElem?_eq_some_iff.1 hv).1; simp [this]) e4 e5 (by decide) e6 e7
  · intro w' F i n cap e1 e2 e3 e4 e5 e6 e7 e8
    refine (parts2_any w' c b i F 0 n cap ((cell_blk e1 0).trans hc) e2 e3 e4 (fun w'' u => Below w'.heap.size w' w'' ∧ PLs R 70 79 F i u w'') ?_).mono (fun e w'' h => h)
    rw [Nat.zero_add]
    refine (frames_ex w' F i 0 0 none e6 e5).mono ?_
    rintro e w'' ⟨c', c2', rfl, b2, bx⟩
    exact ⟨_, rfl, b2, c', c2', _, rfl, bx.cl, by have := bx.cg; omega, by have := bx.cg; omega, bx.dl, by have := bx.dg; omega, by have := bx.dg; omega, bx.cc, bx.dc⟩
  · rintro w' q F i cur u ⟨c', c2', cnt', rfl, a1, a2, a3, a4, a5, a6, a7, a8⟩ hr hF hi hF0 hFR
    exact rd_frames hr hby hF hi hF0 hFR (by decide) (by decide) a1 a2 a3 a4 a5 a6 a7 a8
  · rintro e w' ⟨t1, h1⟩
    refine ⟨t1, ?_⟩
    rcases hx : Im.listP bs (Im.listP bs (Im.listP bs (Im.number bs))) p with ⟨pl, k⟩ | ⟨xs, r⟩
    · rw [hx] at h1; exact h1
    · rw [hx] at h1
      obtain ⟨g1, g2, u, g3, us, g4, g5, g6⟩ := h1
      exact ⟨g1, g2, u, g3, us, g4, Kg.row_base g5 (Nat.zero_le _), g6⟩

end Go.Proofs.YtblbiikfipcbcaaGreatDoor

/-
  Images, the reader: handles, raw fields.
-/
set_option linter.unusedVariables false
set_option maxRecDepth 20000
namespace Go.Proofs.YtblbiikfipcbcaaGreatDoor
open Go.RowKit Go.Shelf

/-- Handles, raw fields. -/
def Vh (xs : List Nat) (u : Value) (w : World) : Prop := w.ownsRow 0 3 1 u xs.length (xs.map fun n : Nat => Value.int .i64 ((n : Int) - 1))
def Vu (xs : List Nat) (u : Value) (w : World) : Prop := w.ownsRow 0 26 1 u xs.length (xs.map fun n : Nat => Value.int .u64 (n : Int))

set_option maxHeartbeats 2000000 in
theorem rd_hands {w : World} {n0 R p b c c2 : Nat} {cnt : Int} {v : Value} {bs : List Nat} {cs : Array Value} (h : Rdr w n0 R v bs p) (hby : ∀ x, x ∈ bs → x < 256) (hB : w.heap[b]? = some (.cells cs 28 (0, 0))) (hv : cs[2]? = some (.slice none 0 0)) (hn : n0 ≤ b) (hbR : b ≠ R)
    (hcl : c < w.heap.size) (hcR : c ≠ R) (hcb : c ≠ b) (h2l : c2 < w.heap.size) (h2R : c2 ≠ R) (h2b : c2 ≠ b) (hc : w.cell? ⟨c, 0, none⟩ = some (.pointer (some ⟨b, 0, none⟩))) (hc2 : w.cell? ⟨c2, 0, none⟩ = some (.pointer (some ⟨b, 2, none⟩))) :
    Calls Tryz.prog 38 #[.pointer (some ⟨R, 0, none⟩), lpart cnt 57 71 c c2] w fun e w' => Cans n0 R v bs b 2 28 cs w w' (Im.listP bs (Im.number bs) p) e Vh := by
  refine (rd_nest (et := 3) (Im.number bs) (fun n u _ => u = .int .i64 ((n : Int) - 1)) (.int .i64 0) (fun F i u _ => u = .iface 98 (.agg #[.pointer (some ⟨F, i, none⟩)])) [] h hby hB hv hn hbR (by decide) (by simp) (by simp) (by simp) (fun x u w1 w2 G hu _ _ => hu) hcl hcR hcb h2l h2R h2b parts3_enters growI_enters ?_ ?_ ?_).mono ?_
  · intro w' lo n a xs e1 e2 e3 e4 e5 e6 e7
    exact growI_any e2 ((cell_blk e1 0).trans hc2) e3 (by have := (Array.getElem?_eq_some_iff.1 hv).1; simp [this]) e4 e5 (by decide) e6 e7
  · intro w' F i n cap e1 e2 e3 e4 _ _ _ _
    refine (parts3_any w' c b i F 0 n cap ((cell_blk e1 0).trans hc) e2 e3 e4).mono ?_
    rintro e w'' ⟨rfl, rfl⟩
    exact ⟨_, rfl, Below.refl _ _, by rw [Nat.zero_add]⟩
  · rintro w' q F i cur u rfl hr hF hi hF0 hFR
    exact rd_handle hr hby hF hi hF0 hFR
  · rintro e w' ⟨t1, h1⟩
    refine ⟨t1, ?_⟩
    rcases hx : Im.listP bs (Im.number bs) p with ⟨pl, k⟩ | ⟨xs, r⟩
    · rw [hx] at h1; exact h1
    · rw [hx] at h1
      obtain ⟨g1, g2, u, g3, us, g4, g5, g6⟩ := h1
      have e1 : us = xs.map fun n : Nat => Value.int .i64 ((n : Int) - 1) := map_of g4 g6
      rw [e1] at g5
      exact ⟨g1, g2, u, g3, Kg.row_base g5 (Nat.zero_le _)⟩

set_option maxHeartbeats 2000000 in
theorem rd_raws {w : World} {n0 R p b o c c2 : Nat} {cnt : Int} {v : Value} {bs : List Nat} {cs : Array Value} (h : Rdr w n0 R v bs p) (hby : ∀ x, x ∈ bs → x < 256) (hB : w.heap[b]? = some (.cells cs 58 (0, 0))) (hv : cs[o + 4]? = some (.slice none 0 0)) (hn : n0 ≤ b) (hbR : b ≠ R)
    (hcl : c < w.heap.size) (hcR : c ≠ R) (hcb : c ≠ b) (h2l : c2 < w.heap.size) (h2R : c2 ≠ R) (h2b : c2 ≠ b) (hc : w.cell? ⟨c, 0, none⟩ = some (.pointer (some ⟨b, o, none⟩))) (hc2 : w.cell? ⟨c2, 0, none⟩ = some (.pointer (some ⟨b, o + 4, none⟩))) :
    Calls Tryz.prog 38 #[.pointer (some ⟨R, 0, none⟩), lpart cnt 67 78 c c2] w fun e w' => Cans n0 R v bs b (o + 4) 58 cs w w' (Im.listP bs (Im.word bs) p) e Vu := by
  refine (rd_nest (et := 26) (Im.word bs) (fun n u _ => u = .int .u64 (n : Int)) (.int .u64 0) (fun F i u _ => u = .iface 101 (.agg #[.pointer (some ⟨F, i, none⟩)])) [] h hby hB hv hn hbR (by decide) (by simp) (by simp) (by simp) (fun x u w1 w2 G hu _ _ => hu) hcl hcR hcb h2l h2R h2b object1_enters growU_enters ?_ ?_ ?_).mono ?_
  · intro w' lo n a xs e1 e2 e3 e4 e5 e6 e7
    exact growU_any e2 ((cell_blk e1 0).trans hc2) e3 (by have := (Array.getElem?_eq_some_iff.1 hv).1; simp [this]) e4 e5 (by decide) e6 e7
  · intro w' F i n cap e1 e2 e3 e4 _ _ _ _
    refine (object1_any w' c b o i F 0 n cap ((cell_blk e1 0).trans hc) e2 e3 e4).mono ?_
    rintro e w'' ⟨rfl, rfl⟩
    exact ⟨_, rfl, Below.refl _ _, by rw [Nat.zero_add]⟩
  · rintro w' q F i cur u rfl hr hF hi hF0 hFR
    exact rd_raw hr hby hF hi hF0 hFR
  · rintro e w' ⟨t1, h1⟩
    refine ⟨t1, ?_⟩
    rcases hx : Im.listP bs (Im.word bs) p with ⟨pl, k⟩ | ⟨xs, r⟩
    · rw [hx] at h1; exact h1
    · rw [hx] at h1
      obtain ⟨g1, g2, u, g3, us, g4, g5, g6⟩ := h1
      have e1 : us = xs.map fun n : Nat => Value.int .u64 (n : Int) := map_of g4 g6
      rw [e1] at g5
      exact ⟨g1, g2, u, g3, Kg.row_base g5 (Nat.zero_le _)⟩

end Go.Proofs.YtblbiikfipcbcaaGreatDoor

