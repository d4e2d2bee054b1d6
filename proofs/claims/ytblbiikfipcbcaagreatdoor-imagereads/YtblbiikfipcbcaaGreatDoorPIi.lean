import Derived.Test.YtblbiikfipcbcaaGreatDoorPKm
import Derived.Deep.Cut
import Derived.Maps.AppendAt
import Derived.ArgAppend
import Derived.Deep.Upon
import Derived.Lib.AppendZerosOnto
import Derived.Test.YtblbiikfipcbcaaGreatDoorIG7
/-
  Append to a row of one's own: what was there can be read as before, too.
-/
set_option linter.unusedVariables false
set_option maxRecDepth 20000
namespace Go.Proofs.YtblbiikfipcbcaaGreatDoor.Kg
open Go.RowKit

theorem setCells_row (g e n : Nat) : ∀ (vs : List Value) (o : Nat) (w : World) (cur : Array Value), w.heap[g]? = some (.cells cur e (0, 0)) → n ≤ o → ∃ cur', (w.setCells g o vs).heap[g]? = some (.cells cur' e (0, 0)) ∧ cur'.size = cur.size ∧ cur'.toList.take n = cur.toList.take n
  | [], o, w, cur, h, _ => ⟨cur, h, rfl, rfl⟩
  | v :: vs, o, w, cur, h, ho => by
    obtain ⟨c2, h1, h2, h3⟩ := setCells_row g e n vs (o + 1) _ _ (heap_set h o v) (by omega)
    refine ⟨c2, h1, by rw [h2]; simp, ?_⟩
    rw [h3, Array.toList_setIfInBounds, List.take_set_of_le ho]

/-- Append to a row of one's own. -/
theorem run_append_row {P : Program} (w : World) (base : Nat) (t ty e : TypeId) (i : TypeInfo) (z : Value) (bytes : Nat) (ht : P.underlying t = some (.slice e)) (hi : P.info? e = some i) (hz : i.zero = some z)
    (hsize : i.size = 1) (hby : i.bytes = bytes) (hzs : z.cells.size = 1)
    (v : Value) (n : Nat) (xs : List Value) (hown : w.ownsRow base e 1 v n xs)
    (ax : Option Addr) (c : Nat) (news : List Value) (hnews : ∀ (j : Nat) u, news[j]? = some u → ∃ ad, ax = some ad ∧ w.cell? (ad.add j) = some u) (h1 : ∀ u ∈ news, u.oneCell' = true)
    (h63 : n + news.length ≤ maxLen) (hbytes : (n + news.length) * bytes ≤ 140737488355328) (hbase : base ≤ w.heap.size) :
    ∃ v' w', (Builtin.append_ #[t, t] ty #[v, .slice ax news.length c]).run P w = .ok v' w' ∧ w'.ownsRow base e 1 v' (n + news.length) (xs ++ news) ∧ w.grownBy w' v.ownBlock ∧
      (v' = .slice none 0 0 → v = .slice none 0 0) ∧ (v'.ownBlock = v.ownBlock ∨ v'.ownBlock = some w.heap.size) ∧ w'.ownsRow base e 1 v n xs := by
  cases ax with
  | none =>
    have hx0 : news = [] := by
      cases news with
      | nil => rfl
      | cons y ys => obtain ⟨ad, e, -⟩ := hnews 0 y rfl; cases e
    subst hx0
    obtain ⟨a0, cp, rfl, hle⟩ : ∃ a0 cp, v = .slice a0 n cp ∧ n ≤ cp := by
      rcases hown.2 with ⟨rfl, rfl⟩ | ⟨g, cap, cur, rfl, _, _, hle, _⟩
      · exact ⟨_, _, rfl, Nat.le_refl _⟩
      · exact ⟨_, _, rfl, hle⟩
    have hr := run_append_nothing (P := P) w t t ty e i ht hi a0 n cp hle (.slice none 0 c) (Src.ofNil w ht c)
    exact ⟨_, _, hr, by simpa using hown, ⟨rfl, rfl, rfl, Nat.le_refl _, fun _ _ _ => rfl⟩, fun h => h, .inl rfl, hown⟩
  | some ad =>
    have hnw : ∀ j u, news[j]? = some u → w.cell? (ad.add j) = some u := fun j u hj => by
      obtain ⟨ad', e, h⟩ := hnews j u hj
      cases e; exact h
    obtain ⟨v', w', hr, h2, h3, h4, h5⟩ := run_append_own_at (P := P) w base t ty e i z 1 bytes ht hi hz hsize hby hzs (by decide) v n xs hown ad news.length c news (by simp) hnw h1 h63 hbytes hbase
    refine ⟨v', w', hr, h2, h3, fun h => (h4.1 h).1, h5, ?_⟩
    refine ⟨hown.1, ?_⟩
    rcases hown.2 with ⟨rfl, rfl⟩ | ⟨g, cap, cur, rfl, hbg, hg, hnc, hcm, hcs, htake⟩
    · exact .inl ⟨rfl, rfl⟩
    · by_cases hroom : n + news.length ≤ cap
      · have hr2 := run_append_room_cells (P := P) w t ty e i ht hi g 0 n cap ad news.length c news (by rw [hsize]; simp) hnw h1 hroom (fun j hj => by
          rw [heap_cell hg, hsize]
          have : j + n < cur.size := by omega
          rw [Array.getElem?_eq_getElem (by omega)]; rfl) (fun j hj => heap_frozen hg _)
        rw [hr] at hr2
        simp only [Result.ok.injEq] at hr2
        obtain ⟨rfl, rfl⟩ := hr2
        obtain ⟨c2, q1, q2, q3⟩ := setCells_row g e (n * 1) news (0 + n * i.size) w cur hg (by rw [hsize]; omega)
        exact .inr ⟨g, cap, c2, rfl, hbg, q1, hnc, hcm, by rw [q2]; exact hcs, by rw [q3]; exact htake⟩
      · have holds : ∀ j u, xs[j]? = some u → w.cell? ((⟨g, 0, none⟩ : Addr).add j) = some u := hown.cells (g := g) rfl
        obtain ⟨v2, w2, hr2, q1, q2⟩ := run_append_arg_grows (P := P) w t ty e i z 1 bytes ht hi hz hsize hby hzs (by decide) ⟨g, 0, none⟩ n cap xs hown.1 holds ad news.length c news (by simp) hnw (by omega) h63 hbytes
        rw [hr] at hr2
        simp only [Result.ok.injEq] at hr2
        obtain ⟨rfl, rfl⟩ := hr2
        exact .inr ⟨g, cap, cur, rfl, hbg, by rw [q2.block g (heap_lt hg) (by simp)]; exact hg, hnc, hcm, hcs, htake⟩

theorem wpList_append_row {P : Program} {w : World} {ops : Array Oper} {rest : List Oper} {o : Oper} {a : Act} {Q : Exit → Act → World → Prop} (hgd : o.guard = none) (s x : Operand) (t : TypeId)
    (ho : o.op = .call { callee := .builtin .append, args := #[s, x], argTypes := #[t, t] })
    (base : Nat) (e : TypeId) (i : TypeInfo) (z : Value) (bytes : Nat) (ht : P.underlying t = some (.slice e)) (hi : P.info? e = some i) (hz : i.zero = some z)
    (hsize : i.size = 1) (hby : i.bytes = bytes) (hzs : z.cells.size = 1)
    (v : Value) (n : Nat) (xs : List Value) (hs : a.eval s = v) (hown : w.ownsRow base e 1 v n xs)
    (ax : Option Addr) (m c : Nat) (news : List Value) (hm : m = news.length) (hx : a.eval x = .slice ax m c) (hnews : ∀ (j : Nat) u, news[j]? = some u → ∃ ad, ax = some ad ∧ w.cell? (ad.add j) = some u) (h1 : ∀ u ∈ news, u.oneCell' = true)
    (h63 : n + m ≤ maxLen) (hbytes : (n + m) * bytes ≤ 140737488355328) (hbase : base ≤ w.heap.size)
    (h : ∀ v' w', w'.ownsRow base e 1 v' (n + m) (xs ++ news) → w.grownBy w' v.ownBlock → (v' = .slice none 0 0 → v = .slice none 0 0) → (v'.ownBlock = v.ownBlock ∨ v'.ownBlock = some w.heap.size) → w'.ownsRow base e 1 v n xs → wpList P ops Q rest (a.put o.dst v') w') :
    wpList P ops Q (o :: rest) a w := by
  subst hm
  refine wpList_plain hgd fun K hK => ?_
  obtain ⟨v', w', hr, h2, h3, h4, h5, h6⟩ := run_append_row (P := P) w base t o.type e i z bytes ht hi hz hsize hby hzs v n xs hown ax c news hnews h1 h63 hbytes hbase
  unfold Oper.wp execOp
  simp only [ho, resolve, invoke, builtin, Sem.run_bind, Sem.run_pure, Result.andThen_ok, List.map_toArray, List.map_cons, List.map_nil, hs, hx, hr]
  exact hK _ _ (h v' w' h2 h3 h4 h5 h6)

theorem step_append_row {P : Program} {ops : Array Oper} {o : Oper} {a : Act} {w : World} {K : Act → World → Prop} {Q : Exit → Act → World → Prop} {E : Prop} (hgd : o.guard = none) (s x : Operand) (t : TypeId)
    (ho : o.op = .call { callee := .builtin .append, args := #[s, x], argTypes := #[t, t] })
    (base : Nat) (e : TypeId) (i : TypeInfo) (z : Value) (bytes : Nat) (ht : P.underlying t = some (.slice e)) (hi : P.info? e = some i) (hz : i.zero = some z)
    (hsize : i.size = 1) (hby : i.bytes = bytes) (hzs : z.cells.size = 1)
    (v : Value) (n : Nat) (xs : List Value) (hs : a.eval s = v) (hown : w.ownsRow base e 1 v n xs)
    (ax : Option Addr) (m c : Nat) (news : List Value) (hm : m = news.length) (hx : a.eval x = .slice ax m c) (hnews : ∀ (j : Nat) u, news[j]? = some u → ∃ ad, ax = some ad ∧ w.cell? (ad.add j) = some u) (h1 : ∀ u ∈ news, u.oneCell' = true)
    (h63 : n + m ≤ maxLen) (hbytes : (n + m) * bytes ≤ 140737488355328) (hbase : base ≤ w.heap.size)
    (h : ∀ v' w', w'.ownsRow base e 1 v' (n + m) (xs ++ news) → w.grownBy w' v.ownBlock → (v' = .slice none 0 0 → v = .slice none 0 0) → (v'.ownBlock = v.ownBlock ∨ v'.ownBlock = some w.heap.size) → K (a.put o.dst v') w') :
    if Region.wanted o (yielded ops a.tmps) = true then Oper.wp P o a w K Q else E := by
  subst hm
  have hw : Region.wanted o (yielded ops a.tmps) = true := by simp [Region.wanted, hgd]
  rw [if_pos hw]
  obtain ⟨v', w', hr, h2, h3, h4, h5, h6⟩ := run_append_row (P := P) w base t o.type e i z bytes ht hi hz hsize hby hzs v n xs hown ax c news hnews h1 h63 hbytes hbase
  unfold Oper.wp
  simp [execOp, ho, resolve, invoke, builtin, hs, hx, hr, Result.andThen]
  exact h v' w' h2 h3 h4 h5

theorem ownsRow_some {w : World} {base n e s : Nat} {v : Value} {xs : List Value} (h : w.ownsRow base e s v n xs) (hn : 0 < n) : ∃ g cap, v = .slice (some ⟨g, 0, none⟩) n cap := by
  rcases h.2 with ⟨_, h0⟩ | ⟨g, cap, cur, rfl, _⟩
  · omega
  · exact ⟨g, cap, rfl⟩

theorem ownsRow_there {w : World} {base n e s : Nat} {v : Value} {xs : List Value} (h : w.ownsRow base e s v n xs) (hn : v ≠ .slice none 0 0) : ∃ g cap, v = .slice (some ⟨g, 0, none⟩) n cap := by
  rcases h.2 with ⟨h0, _⟩ | ⟨g, cap, cur, rfl, _⟩
  · exact absurd h0 hn
  · exact ⟨g, cap, rfl⟩

/-- A row's head, in a block that has grown. -/
theorem row_head {w w1 : World} {base base' e n N : Nat} {v u : Value} {xs ys : List Value} (h1 : w.ownsRow base e 1 v n xs) (h2 : w.ownsRow base' e 1 u N (xs ++ ys)) (he : u.ownBlock = v.ownBlock) (h3 : w1.ownsRow base' e 1 u N (xs ++ ys)) : w1.ownsRow base e 1 v n xs := by
  refine ⟨h1.1, ?_⟩
  rcases h1.2 with ⟨rfl, rfl⟩ | ⟨g, cap, cur, rfl, hbg, hg, hnc, hcm, hcs, htake⟩
  · exact .inl ⟨rfl, rfl⟩
  · rcases h2.2 with ⟨rfl, rfl⟩ | ⟨g2, cap2, cur2, rfl, hbg2, hg2, hnc2, hcm2, hcs2, htake2⟩
    · simp [Value.ownBlock] at he
    · simp only [Value.ownBlock, Option.some.injEq] at he
      subst he
      rcases h3.2 with ⟨h, _⟩ | ⟨g3, cap3, cur3, e3, hbg3, hg3, hnc3, hcm3, hcs3, htake3⟩
      · cases h
      · simp only [Value.slice.injEq, Option.some.injEq, Addr.mk.injEq, true_and, and_true] at e3
        obtain ⟨rfl, rfl⟩ := e3
        rw [hg] at hg2
        simp only [Option.some.injEq, Obj.cells.injEq] at hg2
        obtain ⟨rfl, _⟩ := hg2
        have hcap : cap = cap2 := by omega
        subst hcap
        have hx : xs.length = n := by simpa using h1.1
        have hN : (xs ++ ys).length = N := by simpa using h2.1
        rw [List.length_append] at hN
        refine .inr ⟨g2, cap, cur3, rfl, hbg, hg3, hnc, hcm, hcs3, ?_⟩
        have : cur3.toList.take (n * 1) = (cur3.toList.take (N * 1)).take (n * 1) := by rw [List.take_take]; congr 1; omega
        rw [this, htake3, Nat.mul_one, ← hx]
        simp

/-- A row's element is written. -/
theorem row_set {w : World} {base e n g cap : Nat} {xs : List Value} (h : w.ownsRow base e 1 (.slice (some ⟨g, 0, none⟩) n cap) n xs) (j : Nat) (x : Value) : (w.setCell ⟨g, j, none⟩ x).ownsRow base e 1 (.slice (some ⟨g, 0, none⟩) n cap) n (xs.set j x) := by
  refine ⟨by simpa using h.1, ?_⟩
  rcases h.2 with ⟨h, _⟩ | ⟨g2, cap2, cur, e2, hbg, hg, hnc, hcm, hcs, htake⟩
  · cases h
  · simp only [Value.slice.injEq, Option.some.injEq, Addr.mk.injEq, true_and, and_true] at e2
    obtain ⟨rfl, rfl⟩ := e2
    refine .inr ⟨g, cap, _, rfl, hbg, heap_set hg j x, hnc, hcm, by simpa using hcs, ?_⟩
    rw [Array.toList_setIfInBounds, List.take_set, htake]


end Go.Proofs.YtblbiikfipcbcaaGreatDoor.Kg

/-
  Zeros appended to a row of one's own.
-/
set_option linter.unusedVariables false
namespace Go.Proofs.YtblbiikfipcbcaaGreatDoor
open Go.RowKit

theorem zeroCells_one (z : Value) (k : Nat) : Builtin.zeroCells #[z] k = (List.replicate k z).toArray := by
  apply Array.ext'
  apply List.ext_getElem?
  intro i
  by_cases h : i < k
  · simp [Builtin.zeroCells, h, Nat.mod_one]
  · simp [Builtin.zeroCells, h]

/-- k zeros at the end of a row of numbers. -/
theorem run_zeros_own (w : World) (base t tn ty e : Nat) (i : TypeInfo) (z : Value) (bytes : Nat) (kq kn : IntKind) (ht : Tryz.prog.underlying t = some (.slice e)) (htn : Tryz.prog.underlying tn = some (.int kn)) (hi : Tryz.prog.info? e = some i) (hz : i.zero = some z)
    (hsize : i.size = 1) (hby : i.bytes = bytes) (hzs : z.cells = #[z]) (hz1 : z.oneCell' = true)
    (v : Value) (n : Nat) (xs : List Value) (hown : w.ownsRow base e 1 v n xs) (k : Nat) (h0 : 0 < k)
    (h63 : n + k ≤ maxLen) (hbytes : (n + k) * bytes ≤ 140737488355328) (hbase : base ≤ w.heap.size) :
    ∃ v' w', (Builtin.append_ #[t, tn] ty #[v, .int kq k]).run Tryz.prog w = .ok v' w' ∧ w'.ownsRow base e 1 v' (n + k) (xs ++ List.replicate k z) ∧ w.grownBy w' v.ownBlock ∧
      (v'.ownBlock = v.ownBlock ∨ v'.ownBlock = some w.heap.size) := by
  have hsmall : n + k ≤ 9223372036854775807 := by simp only [maxLen] at h63; omega
  have hxl : xs.length = n := by simpa using hown.1
  have hkb : k * bytes ≤ 140737488355328 := Nat.le_trans (Nat.mul_le_mul_right _ (by omega)) hbytes
  have hlen : (xs ++ List.replicate k z).length = (n + k) * 1 := by simp [hxl]
  have grown : ∀ (old : Nat), old < n + k → ∀ (row : Option Nat),
      (w.drew.alloc (.cells (xs.toArray ++ Builtin.zeroCells z.cells k ++ Builtin.zeroCells z.cells (grownCap w (n + k) old e - (n + k))) e)).ownsRow base e 1
        (.slice (some ⟨w.heap.size, 0, none⟩) (n + k) (grownCap w (n + k) old e)) (n + k) (xs ++ List.replicate k z) ∧
      w.grownBy (w.drew.alloc (.cells (xs.toArray ++ Builtin.zeroCells z.cells k ++ Builtin.zeroCells z.cells (grownCap w (n + k) old e - (n + k))) e)) row := by
    intro old ho row
    have hge := grownCap_ge w (n + k) old e
    have hcm : grownCap w (n + k) old e ≤ maxLen := grownCap_le_maxLen w (n + k) old e h63
    refine ⟨⟨hlen, .inr ⟨w.heap.size, _, _, rfl, hbase, heap_alloc_new w.drew _, hge, hcm, ?_, ?_⟩⟩, ⟨rfl, rfl, rfl, by simp, fun k hk _ => Below.heap_alloc w.drew _ k hk⟩⟩
    · rw [hzs]; simp only [Array.size_append, List.size_toArray, size_zeroCells, hxl]
      simp; omega
    · rw [hzs, zeroCells_one, ← hlen]
      simp only [Array.toList_append]
      exact List.take_left
  rcases hown.2 with ⟨rfl, rfl⟩ | ⟨g, cap, cur, rfl, hbg, hg, hnc, hcm, hcs, htake⟩
  · have hx : xs = [] := List.eq_nil_of_length_eq_zero hxl
    subst hx
    have hr := Lib.run_append_nil_zeros (P := Tryz.prog) w t tn ty e i z kq kn ht htn hi hz k h0 (by omega) (by omega) (by rw [hby]; omega)
    have hgr := grown 0 (by omega) (Value.ownBlock (.slice none 0 0))
    simp only [Nat.zero_add, List.nil_append, Array.empty_append] at hgr ⊢
    exact ⟨_, _, hr, hgr.1, hgr.2, Or.inr rfl⟩
  · by_cases hroom : n + k ≤ cap
    · have hfit : n * 1 + (List.replicate k z).length ≤ cur.size := by simp; omega
      have hst := run_storeCells_at Tryz.prog g n e (List.replicate k z) 0 cur w hg (by simp; omega) (by intro u hu; rw [List.eq_of_mem_replicate hu]; exact hz1)
      simp only [Nat.add_zero] at hst
      have hw : IntKind.i64.wrap (k : Int) = k := by rw [IntKind.wrap_i64]; omega
      have h48i : ¬ (281474976710656 < (k : Int) * (i.bytes : Int)) := by
        rw [← Int.natCast_mul, hby]
        omega
      have hneg : ¬ ((k : Int) < 0) := by omega
      have hk : k ≠ 0 := by omega
      have hr : (Builtin.append_ #[t, tn] ty #[.slice (some ⟨g, 0, none⟩) n cap, .int kq k]).run Tryz.prog w =
          .ok (.slice (some ⟨g, 0, none⟩) (n + k) cap) (w.setRow g (cur.toList.take n ++ List.replicate k z ++ cur.toList.drop (n + (List.replicate k z).length)).toArray) := by
        simp [Builtin.append_, run_underlying ht, run_underlying htn, sizeOf, typeInfo, zeroValue, hi, hz, hsize, asInt, asIntOf, hw, hneg, hk, h48i, hroom, hzs, zeroCells_one, Addr.add_lit, hst]
      refine ⟨_, _, hr, ⟨hlen, .inr ⟨g, cap, _, rfl, hbg, setRow_heap w g cur _ e _ hg, hroom, hcm, ?_, ?_⟩⟩, ⟨rfl, rfl, rfl, by simp, fun k _ hk => setRow_other w g k _ (fun e => hk (by simp [Value.ownBlock, e]))⟩, Or.inl rfl⟩
      · simp
        omega
      · rw [← hlen]
        rw [Nat.mul_one] at htake
        simp only [htake]
        exact List.take_left
    · have hold : (Builtin.firstCells i.size n (.slice (some ⟨g, 0, none⟩) n cap)).run Tryz.prog w.drew = .ok xs.toArray w.drew := by
        have holds : ∀ j u, xs[j]? = some u → w.drew.cell? ((⟨g, 0, none⟩ : Addr).add j) = some u := hown.cells (g := g) rfl
        exact run_firstCells_some (P := Tryz.prog) w.drew i.size n ⟨g, 0, none⟩ n cap xs (by rw [hsize]; simpa using hxl) holds
      have hr := Lib.run_append_grow_zeros (P := Tryz.prog) w t tn ty e i z kq kn ht htn hi hz (some ⟨g, 0, none⟩) n cap xs hold k h0 (by omega) (by omega) (by omega) (by rw [hby]; omega) (by rw [hby]; exact growslice_fits (by omega) hbytes)
      have hgr := grown cap (by omega) (Value.ownBlock (.slice (some ⟨g, 0, none⟩) n cap))
      exact ⟨_, _, hr, hgr.1, hgr.2, Or.inr rfl⟩

end Go.Proofs.YtblbiikfipcbcaaGreatDoor

/-
  Images: slices.Grow of nothing, slices.Concat.
-/
set_option linter.unusedVariables false
set_option maxRecDepth 20000
namespace Go.Proofs.YtblbiikfipcbcaaGreatDoor
open Go.RowKit Go.Shelf

theorem row_cut0 {w : World} {base e n g cap : Nat} {xs : List Value} (h : w.ownsRow base e 1 (.slice (some ⟨g, 0, none⟩) n cap) n xs) : w.ownsRow base e 1 (.slice (some ⟨g, 0, none⟩) 0 cap) 0 [] := by
  rcases h.2 with ⟨h1, h2⟩ | ⟨g', cap', cur, h1, h2, h3, h4, h5, h6, h7⟩
  · cases h1
  · cases h1
    exact ⟨rfl, .inr ⟨g, cap, cur, rfl, h2, h3, Nat.zero_le _, h5, h6, by simp⟩⟩

set_option maxHeartbeats 4000000 in
/-- Grow of nothing. -/
theorem slGrow_nil (n : Nat) (hn : n ≤ 1000000000000) (w : World) :
    Calls Tryz.prog 97 #[.slice none 0 0, .int .i64 n] w fun e w' => ∃ v, e = .returned v ∧ Below w.heap.size w w' ∧ w'.ownsRow w.heap.size 3 1 v 0 [] := by
  obtain ⟨i0, hi0, hj0, hj1, hj2⟩ := info_parts Kg.Tryz.infoInt
  have hn0 : ¬ (n : Int) < 0 := by omega
  by_cases h0 : 0 < n
  · have h0i : (n : Int) > 0 := by omega
    obtain ⟨v', w', hr, ho, hg, hb⟩ := run_zeros_own w w.heap.size 25 3 25 3 i0 (.int .i64 0) 8 .i64 .i64 Tryz.underlying25 (by kernel_rfl) hi0 hj0 hj1 hj2 rfl rfl (.slice none 0 0) 0 [] (World.ownsRow_nil _ _ _ _) n h0 (by simp only [maxLen]; omega) (by omega) (Nat.le_refl _)
    have HB : Hid (Below w.heap.size w w') := ⟨hg.os, hg.tape, hg.output, hg.size, fun k hk => hg.block k hk (fun e => by cases e)⟩
    rw [Nat.zero_add] at ho
    obtain ⟨gb, cp, rfl⟩ := Kg.ownsRow_some ho h0
    have Ho : Hid (w'.ownsRow w.heap.size 3 1 (.slice (some ⟨gb, 0, none⟩) 0 cp) 0 []) := row_cut0 ho
    clear ho hb hg hi0 hj0 hj1 hj2
    go_enter Tryz.func97, Tryz.ntmps97
    go_wp2_with (at_builtin; refine Lib.wpList_append_run _ rfl _ _ _ _ rfl _ _ rfl rfl _ _ hr ?_)
    clear hr
    go_wp2
    go_ret
    exact ⟨_, rfl, HB.out, Ho.out⟩
  · have h0e : n = 0 := by omega
    subst h0e
    go_enter Tryz.func97, Tryz.ntmps97
    go_wp2
    go_ret
    exact ⟨_, rfl, Below.refl _ _, World.ownsRow_nil _ _ _ _⟩

/-- All of them, one behind the other. -/
def flat (fs : List (Value × List Int)) : List Int := (fs.map (·.2)).flatten

theorem flat_snoc {fs : List (Value × List Int)} {k : Nat} {x : Value × List Int} (h : fs[k]? = some x) : flat (fs.take (k + 1)) = flat (fs.take k) ++ x.2 := by
  rw [take_snocL h]
  simp [flat]

theorem flat_len (fs : List (Value × List Int)) : (flat fs).length = fsum (fs.map (·.2)) := by
  simp [flat, fsum, List.length_flatten]

theorem lrd_news {n0 : Nat} {w : World} {a : Option Addr} {cap n : Nat} {xs : List Int} (h : Lrd n0 w (.slice a n cap) .i64 xs) : ∀ (j : Nat) u, (Kg.ints xs)[j]? = some u → ∃ ad, a = some ad ∧ w.cell? (ad.add j) = some u := by
  obtain ⟨a', cap', e, h2, h3⟩ := h
  cases e
  intro j u hj
  simp only [Kg.ints, List.getElem?_map] at hj
  cases hx : xs[j]? with
  | none => rw [hx] at hj; cases hj
  | some z =>
    rw [hx] at hj
    cases hj
    obtain ⟨q, off, rfl, -, h6⟩ := h3 j z hx
    exact ⟨_, rfl, by rw [Addr.add_lit]; exact h6⟩

set_option maxHeartbeats 4000000 in
/-- slices.Concat. -/
theorem slConcat_any (n0 : Nat) (v : Value) (fs : List (Value × List Int)) (w : World) (hv : Frd n0 w v fs) (hn : n0 ≤ w.heap.size) (hl : fs.length ≤ 4611686018427387904) (hs : fsum (fs.map (·.2)) ≤ 1000000000000) :
    Calls Tryz.prog 91 #[v] w fun e w' => ∃ v', e = .returned v' ∧ Below w.heap.size w w' ∧ w'.ownsRow w.heap.size 3 1 v' (flat fs).length (Kg.ints (flat fs)) := by
  obtain ⟨i0, hi0, hj0, hj1, hj2⟩ := info_parts Kg.Tryz.infoInt
  have HI : Hid (Tryz.prog.info? 3 = some i0 ∧ i0.zero = some (.int .i64 0) ∧ i0.size = 1 ∧ i0.bytes = 8) := ⟨hi0, hj0, hj1, hj2⟩
  clear hi0 hj0 hj1 hj2
  have Hv : Hid (Frd n0 w v fs) := hv
  obtain ⟨a, cap, rfl, -⟩ := hv
  go_enter Tryz.func91, Tryz.ntmps91
  go_wp2
  go_loopw [3, 11] (fun v3 v11 wr => ∃ k : Nat, k ≤ fs.length ∧ v11 = .int .i64 k ∧ v3 = .int .i64 (fsum ((fs.map (·.2)).take k)) ∧ w = wr) (fun _ v11 _ => fs.length - (intOf v11).toNat)
  case atStart => exact ⟨0, Nat.zero_le _, rfl, rfl, rfl⟩
  case round =>
    obtain ⟨k, hk, rfl, rfl, rfl⟩ := hrel
    by_cases hkl : k < fs.length
    · have hki : (k : Int) < (fs.length : Int) := by omega
      have hz : fs[k]? = some (fs[k]'hkl) := List.getElem?_eq_getElem hkl
      generalize fs[k]'hkl = x at hz
      obtain ⟨a', cap', ea, hob⟩ := Hv.out
      cases ea
      obtain ⟨hp, q, off, rfl, hq, hc⟩ := hob k x hz
      obtain ⟨ap, cp, ep, -⟩ := hp
      rw [ep] at hc
      have e9 : fsum ((fs.map (·.2)).take (k + 1)) = fsum ((fs.map (·.2)).take k) + x.2.length := by
        rw [take_snocL (o := x.2) (by rw [List.getElem?_map, hz]; rfl), fsum_snoc]
      have hle := fsum_take (fs.map (·.2)) (k + 1)
      have hle2 : fsum ((fs.map (·.2)).take k) + x.2.length ≤ 1000000000000 := by omega
      have hwr : wrap64 ((fsum ((fs.map (·.2)).take k) : Int) + (x.2.length : Int)) = (fsum ((fs.map (·.2)).take k) : Int) + (x.2.length : Int) := by unfold wrap64; omega
      have hng : ¬ ((fsum ((fs.map (·.2)).take k) : Int) + (x.2.length : Int) < 0) := by omega
      have He : Hid (fsum ((fs.map (·.2)).take (k + 1)) = fsum ((fs.map (·.2)).take k) + x.2.length) := e9
      clear e9 hle hob hz ep
      go_wp2
      go_roundw
      case rel =>
        exact ⟨k + 1, by omega, by go_num, by rw [He.out, Int.natCast_add], trivial⟩
      case measure => simp [intOf]; omega
    · have hki : ¬ (k : Int) < (fs.length : Int) := by omega
      have e9 : fsum ((fs.map (·.2)).take k) = fsum (fs.map (·.2)) := by rw [List.take_of_length_le (by simp; omega)]
      rw [e9]
      have hgr := slGrow_nil (fsum (fs.map (·.2))) hs w
      go_wp2_with fail
      refine hgr.mono ?_
      rintro e w2 ⟨v2, rfl, b2, o2⟩
      obtain ⟨a2, c2, hv2⟩ := own_slI o2
      subst hv2
      have Hb2 : Hid (Below w.heap.size w w2) := b2
      have Ho2 : Hid (w2.ownsRow w.heap.size 3 1 (.slice a2 0 c2) 0 []) := o2
      clear hgr b2 o2 e9
      go_wp2
      go_loopw [6, 27] (fun v6 v27 wr => ∃ k : Nat, k ≤ fs.length ∧ v27 = .int .i64 k ∧ Hid (wr.ownsRow w.heap.size 3 1 v6 (flat (fs.take k)).length (Kg.ints (flat (fs.take k)))) ∧ Hid (Below w.heap.size w wr)) (fun _ v27 _ => fs.length - (intOf v27).toNat)
      case atStart => exact ⟨0, Nat.zero_le _, rfl, Ho2.out, Hb2⟩
      case round =>
        obtain ⟨k, hk, rfl, Hr, Hb⟩ := hrel
        obtain ⟨a3, c3, hv3⟩ := own_slI Hr.out
        subst hv3
        by_cases hkl : k < fs.length
        · have hki : (k : Int) < (fs.length : Int) := by omega
          have hz : fs[k]? = some (fs[k]'hkl) := List.getElem?_eq_getElem hkl
          generalize fs[k]'hkl = x at hz
          obtain ⟨a', cap', ea, hob⟩ := Hv.out.below (Hb.out.mono hn)
          cases ea
          obtain ⟨hp, q, off, rfl, hq, hc⟩ := hob k x hz
          have Hp : Hid (Lrd n0 wr x.1 .i64 x.2) := hp
          obtain ⟨ap, cp, ep, -⟩ := hp
          rw [ep] at hc Hp
          have Hnews := lrd_news Hp.out
          have He : Hid (flat (fs.take (k + 1)) = flat (fs.take k) ++ x.2) := flat_snoc hz
          have Hle : Hid ((flat (fs.take k)).length + x.2.length ≤ 1000000000000) := by
            have h1 := fsum_take (fs.map (·.2)) (k + 1)
            rw [← List.map_take, ← flat_len, He.out, List.length_append] at h1
            show _ ≤ _
            omega
          have HN : Hid (∀ (j : Nat) u, (Kg.ints x.2)[j]? = some u → ∃ ad, ap = some ad ∧ wr.cell? (ad.add j) = some u) := Hnews
          clear Hnews hob hz ep
          go_wp2_with (at_builtin; refine Kg.wpList_append_row rfl _ _ 25 rfl w.heap.size 3 i0 (.int .i64 0) 8 Tryz.underlying25 HI.out.1 HI.out.2.1 HI.out.2.2.1 HI.out.2.2.2 rfl _ _ _ rfl Hr.out ap x.2.length cp (Kg.ints x.2) (by simp [Kg.ints]) rfl HN.out (by simp [Kg.ints, Value.oneCell']) (by have := Hle.out; simp only [maxLen]; omega) (by have := Hle.out; omega) Hb.out.size ?_; intro v' w8 hown' hgrow _ hat _)
          go_roundw
          case rel =>
            refine ⟨k + 1, by omega, by go_num, ?_, ?_⟩
            · show w8.ownsRow _ _ _ _ _ _
              rw [He.out]
              simpa [Kg.ints] using hown'
            · have t8 : Kg.Touch (Value.slice a3 (flat (fs.take k)).length c3).ownBlock.toList wr w8 := Kg.Touch.grown hgrow (fun y hy => by rw [Option.mem_toList]; exact hy)
              exact Hb.out.trans (t8.below Hb.out.size (fun y hy => by rw [Option.mem_toList] at hy; exact (Hr.out.lt y hy).1))
          case measure => simp [intOf]; omega
        · have hki : ¬ (k : Int) < (fs.length : Int) := by omega
          have e9 : fs.take k = fs := List.take_of_length_le (by omega)
          rw [e9] at Hr
          go_wp2
          go_ret
          exact ⟨_, rfl, Hb.out, Hr.out⟩

end Go.Proofs.YtblbiikfipcbcaaGreatDoor

