/-
  The things in memory, each with its fields in blocks of its own; what a write does.
-/
import Derived.Test.YtbdkcelggffneaaDoorHX
import Derived.Test.YtbdkcelggffneaaDoorHZa
import Derived.Test.YtbdkcelggffneaaDoorHYh
set_option linter.unusedVariables false
set_option maxRecDepth 20000
namespace Go.Proofs.YtbdkcelggffneaaDoor
open Go.RowKit Go.Shelf

def tflat (th : List Tng) : List Value := (th.map fun T => T.cells.toList).flatten

theorem tflat_at : ∀ (l : List Tng) (i : Nat) (T : Tng) (j : Nat), l[i]? = some T → j < 11 → (tflat l)[i * 11 + j]? = T.cells[j]? := by
  intro l
  induction l with
  | nil => intro i T j h; simp at h
  | cons y l ih =>
    intro i T j h hj
    have e : tflat (y :: l) = y.cells.toList ++ tflat l := by simp [tflat]
    rw [e]
    cases i with
    | zero =>
      simp at h
      subst h
      rw [List.getElem?_append_left (by simpa using hj)]
      simp
    | succ i =>
      rw [List.getElem?_append_right (by simp; omega)]
      have : (i + 1) * 11 + j - y.cells.toList.length = i * 11 + j := by simp; omega
      rw [this]
      exact ih i T j (by simpa using h) hj

theorem tflat_len (l : List Tng) : (tflat l).length = l.length * 11 := by
  induction l with
  | nil => rfl
  | cons y l ih =>
    have e : tflat (y :: l) = y.cells.toList ++ tflat l := by simp [tflat]
    rw [e, List.length_append, ih]
    simp
    omega

/-- The things in memory. -/
structure Mh (w : World) (n0 g : Nat) (lv : Value) (th : List Tng) : Prop where
  row : w.ownsRow 0 81 11 lv th.length (tflat th)
  lvb : ∀ q, lv.ownBlock = some q → n0 ≤ q
  pb : ∀ T, T ∈ th → w.heap[T.gp]? = some (.cells (T.ps.map (Value.int .i64)).toArray 3 (0, 0)) ∧ n0 ≤ T.gp
  rb : ∀ T, T ∈ th → w.heap[T.gr]? = some (.cells (T.rs.map (Value.int .u64)).toArray 38 (0, 0)) ∧ n0 ≤ T.gr ∧ T.gr ≠ g
  dp : ∀ (i j : Nat) T U, th[i]? = some T → th[j]? = some U → i ≠ j → T.gp ≠ U.gp ∧ T.gr ≠ U.gr

theorem heap_ty_ne {w : World} {p q t u : Nat} {cs ds : Array Value} (h : w.heap[p]? = some (.cells cs t (0, 0))) (k : w.heap[q]? = some (.cells ds u (0, 0))) (htu : t ≠ u) : p ≠ q := by
  rintro rfl
  rw [h] at k
  simp at k
  exact htu k.2

section
variable {w w' : World} {n0 b g : Nat} {lv : Value} {th : List Tng} {c : Cfg} {x : Tps} {sw : Bool} {ws : Nat → Int}

theorem Mh.nil (w : World) (n0 g : Nat) : Mh w n0 g (.slice none 0 0) [] :=
  ⟨World.ownsRow_nil _ _ _ _, fun q h => by simp [Value.ownBlock] at h, fun T h => by simp at h, fun T h => by simp at h, fun i j T U h => by simp at h⟩

theorem Mh.sl (H : Mh w n0 g lv th) : ∃ a0 cap, lv = .slice a0 th.length cap := by
  rcases H.row.2 with ⟨h1, h2⟩ | ⟨q, cap, cur, h1, _⟩
  · exact ⟨none, 0, by rw [h1, h2]⟩
  · exact ⟨_, _, h1⟩

theorem Mh.tgs {a0 : Option Addr} {cap : Nat} (H : Mh w n0 g (.slice a0 th.length cap) th) : Tgs w a0 th := by
  refine ⟨fun i T hT => ?_, fun i T hT f z hz => ?_, fun i T hT f z hz => ?_⟩
  · have hi := (List.getElem?_eq_some_iff.1 hT).1
    rcases H.row.2 with ⟨h1, h2⟩ | ⟨q, cap', cur, h1, _, hg, hn, _, hs, ht⟩
    · omega
    · simp only [Value.slice.injEq] at h1
      refine ⟨q, h1.1, (Array.getElem?_eq_some_iff.1 hg).1, fun j hj => ?_⟩
      rw [cell_of_row _ _ (i * 11 + j) _ _ _ hg, ← tflat_at th i T j hT hj, ← ht, List.getElem?_take, if_pos (by omega), Array.getElem?_toList]
  · rw [cell_of_row _ _ f _ _ _ (H.pb T (List.mem_of_getElem? hT)).1]
    simp [hz]
  · rw [cell_of_row _ _ f _ _ _ (H.rb T (List.mem_of_getElem? hT)).1]
    simp [hz]

theorem Mh.touch {F : List Nat} (H : Mh w n0 g lv th) (t : Touch F w w') (h1 : ∀ q, lv.ownBlock = some q → q ∉ F) (h2 : ∀ T, T ∈ th → T.gp ∉ F ∧ T.gr ∉ F) : Mh w' n0 g lv th :=
  ⟨row_keep H.row (fun q hq => t.block q (row_lt H.row q hq) (h1 q hq)), H.lvb,
    fun T hT => ⟨(t.block _ (Array.getElem?_eq_some_iff.1 (H.pb T hT).1).1 (h2 T hT).1).trans (H.pb T hT).1, (H.pb T hT).2⟩,
    fun T hT => ⟨(t.block _ (Array.getElem?_eq_some_iff.1 (H.rb T hT).1).1 (h2 T hT).2).trans (H.rb T hT).1, (H.rb T hT).2⟩, H.dp⟩

theorem Mh.below (H : Mh w n0 g lv th) (l : Below w.heap.size w w') : Mh w' n0 g lv th := H.touch (Touch.of_below l []) (by simp) (by simp)

theorem Ar.rowTy (hA : Ar w b g c x sw ws) : (∃ cs, w.heap[g]? = some (.cells cs 38 (0, 0))) ∧ ∃ cs, w.heap[b]? = some (.cells cs 70 (0, 0)) := by
  obtain ⟨cs, h1, -, -⟩ := hA.own
  obtain ⟨ds, h2, -, -⟩ := hA.row
  exact ⟨⟨ds, h2⟩, cs, h1⟩

/-- A pointer field is written. -/
theorem Mh.ptr (H : Mh w n0 g lv th) (hA : Ar w b g c x sw ws) (i : Nat) (T : Tng) (hTi : th[i]? = some T) (n : Nat) (z : Int) (t : Touch [g, T.gp] w w') (hp : w'.heap[T.gp]? = some (.cells ((T.ps.map (Value.int .i64)).toArray.setIfInBounds n (.int .i64 z)) 3 (0, 0))) :
    Mh w' n0 g lv (th.set i { T with ps := T.ps.set n z }) := by
  obtain ⟨⟨gs, hg⟩, bs, hb⟩ := hA.rowTy
  have hm := List.mem_of_getElem? hTi
  have hlg := (own_ne hA H.row).2
  have hlp : some T.gp ≠ lv.ownBlock := row_ne (H.pb T hm).1 H.row (by decide)
  have e : tflat (th.set i { T with ps := T.ps.set n z }) = tflat th := by
    unfold tflat
    rw [map_set_same (fun T : Tng => T.cells.toList) th i T _ hTi (by simp)]
  have other : ∀ (k : Nat) V, k ≠ i → th[k]? = some V → w'.heap[V.gp]? = w.heap[V.gp]? ∧ w'.heap[V.gr]? = w.heap[V.gr]? := fun k V hk hV => by
    have hmV := List.mem_of_getElem? hV
    have h1 := (H.dp k i V T hV hTi hk).1
    have h2 := heap_ty_ne (H.pb V hmV).1 hg (by decide)
    have h3 := heap_ty_ne (H.rb V hmV).1 (H.pb T hm).1 (by decide)
    have h4 := (H.rb V hmV).2.2
    exact ⟨t.block _ (Array.getElem?_eq_some_iff.1 (H.pb V hmV).1).1 (by simp [h1, h2]), t.block _ (Array.getElem?_eq_some_iff.1 (H.rb V hmV).1).1 (by simp [h3, h4])⟩
  have mine : w'.heap[T.gr]? = w.heap[T.gr]? := by
    have h3 := heap_ty_ne (H.rb T hm).1 (H.pb T hm).1 (by decide)
    have h4 := (H.rb T hm).2.2
    exact t.block _ (Array.getElem?_eq_some_iff.1 (H.rb T hm).1).1 (by simp [h3, h4])
  refine ⟨?_, H.lvb, fun V hV => ?_, fun V hV => ?_, fun k l V U hk hl hkl => ?_⟩
  · rw [e, List.length_set]
    exact row_keep H.row (fun q hq => t.block q (row_lt H.row q hq) (by
      simp only [List.mem_cons, List.not_mem_nil, or_false, not_or]
      exact ⟨fun e => hlg (by rw [← e]; exact hq.symm), fun e => hlp (by rw [← e]; exact hq.symm)⟩))
  · obtain ⟨k, hk⟩ := List.getElem?_of_mem hV
    rcases set_at_of hk with ⟨rfl, rfl⟩ | ⟨hn, hk⟩
    · refine ⟨?_, (H.pb T hm).2⟩
      rw [hp]
      simp [List.map_set]
    · rw [(other k V hn hk).1]
      exact H.pb V (List.mem_of_getElem? hk)
  · obtain ⟨k, hk⟩ := List.getElem?_of_mem hV
    rcases set_at_of hk with ⟨rfl, rfl⟩ | ⟨hn, hk⟩
    · show w'.heap[T.gr]? = _ ∧ _
      rw [mine]
      exact H.rb T hm
    · rw [(other k V hn hk).2]
      exact H.rb V (List.mem_of_getElem? hk)
  · rcases set_at_of hk with ⟨rfl, rfl⟩ | ⟨hn, hk2⟩
    · rcases set_at_of hl with ⟨rfl, rfl⟩ | ⟨hn2, hl⟩
      · exact absurd rfl hkl
      · exact H.dp _ _ T U hTi hl hkl
    · rcases set_at_of hl with ⟨rfl, rfl⟩ | ⟨hn2, hl⟩
      · exact H.dp _ _ V T hk2 hTi hkl
      · exact H.dp _ _ V U hk2 hl hkl
end

end Go.Proofs.YtbdkcelggffneaaDoor
