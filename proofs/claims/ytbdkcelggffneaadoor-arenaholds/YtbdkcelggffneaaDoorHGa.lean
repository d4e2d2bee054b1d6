/-
  The things in memory: a raw field, a header, a new thing.
-/
import Derived.Test.YtbdkcelggffneaaDoorHG
set_option linter.unusedVariables false
set_option maxRecDepth 20000
namespace Go.Proofs.YtbdkcelggffneaaDoor
open Go.RowKit Go.Shelf

theorem set7_out (cs : Array Value) (o m : Nat) (s k P1 R1 a t : Int) (h : Bool) (hm : m < o + 2 ∨ o + 8 < m) : (set7 cs o s k P1 R1 a t h)[m]? = cs[m]? := by
  unfold set7
  rw [Array.getElem?_setIfInBounds_ne (by omega), Array.getElem?_setIfInBounds_ne (by omega), Array.getElem?_setIfInBounds_ne (by omega), Array.getElem?_setIfInBounds_ne (by omega), Array.getElem?_setIfInBounds_ne (by omega), Array.getElem?_setIfInBounds_ne (by omega), Array.getElem?_setIfInBounds_ne (by omega)]

theorem set7_in (cs : Array Value) (o j : Nat) (s k P1 R1 a t : Int) (h : Bool) (hs : o + 8 < cs.size) (hj : j < 7) : (set7 cs o s k P1 R1 a t h)[o + 2 + j]? = (hcells s k P1 R1 a t h)[j]? := by
  unfold set7
  match j, hj with
  | 0, _ | 1, _ | 2, _ | 3, _ | 4, _ | 5, _ | 6, _ =>
    simp only [Array.getElem?_setIfInBounds, Array.size_setIfInBounds]
    simp
    try omega

theorem set7_size (cs : Array Value) (o : Nat) (s k P1 R1 a t : Int) (h : Bool) : (set7 cs o s k P1 R1 a t h).size = cs.size := by unfold set7; simp

theorem tc_same (T : Tng) (s k a t : Int) (h : Bool) (j : Nat) (hj : j < 11) (h7 : j < 2 ∨ 8 < j) : T.cells[j]? = ({ T with s := s, k := k, a := a, t := t, h := h } : Tng).cells[j]? := by
  have : j = 0 ∨ j = 1 ∨ j = 9 ∨ j = 10 := by omega
  rcases this with rfl | rfl | rfl | rfl <;> rfl

theorem tc_mid (T : Tng) (s k a t : Int) (h : Bool) (j : Nat) (hj : j < 7) : (hcells s k T.p T.r a t h)[j]? = ({ T with s := s, k := k, a := a, t := t, h := h } : Tng).cells[2 + j]? := by
  have : j = 0 ∨ j = 1 ∨ j = 2 ∨ j = 3 ∨ j = 4 ∨ j = 5 ∨ j = 6 := by omega
  rcases this with rfl | rfl | rfl | rfl | rfl | rfl | rfl <;> rfl

section
variable {w w' : World} {n0 b g : Nat} {lv : Value} {th : List Tng} {c : Cfg} {x : Tps} {sw : Bool} {ws : Nat → Int}

/-- A raw field is written. -/
theorem Mh.raw (H : Mh w n0 g lv th) (hA : Ar w b g c x sw ws) (i : Nat) (T : Tng) (hTi : th[i]? = some T) (n : Nat) (z : Int) (t : Touch [g, T.gr] w w') (hp : w'.heap[T.gr]? = some (.cells ((T.rs.map (Value.int .u64)).toArray.setIfInBounds n (.int .u64 z)) 38 (0, 0))) :
    Mh w' n0 g lv (th.set i { T with rs := T.rs.set n z }) := by
  obtain ⟨⟨gs, hg⟩, bs, hb⟩ := hA.rowTy
  have hm := List.mem_of_getElem? hTi
  have hlg := (own_ne hA H.row).2
  have hlp : some T.gr ≠ lv.ownBlock := row_ne (H.rb T hm).1 H.row (by decide)
  have e : tflat (th.set i { T with rs := T.rs.set n z }) = tflat th := by
    unfold tflat
    rw [map_set_same (fun T : Tng => T.cells.toList) th i T _ hTi (by simp)]
  have other : ∀ (k : Nat) V, k ≠ i → th[k]? = some V → w'.heap[V.gp]? = w.heap[V.gp]? ∧ w'.heap[V.gr]? = w.heap[V.gr]? := fun k V hk hV => by
    have hmV := List.mem_of_getElem? hV
    have h1 := heap_ty_ne (H.pb V hmV).1 (H.rb T hm).1 (by decide)
    have h2 := heap_ty_ne (H.pb V hmV).1 hg (by decide)
    have h3 := (H.dp k i V T hV hTi hk).2
    have h4 := (H.rb V hmV).2.2
    exact ⟨t.block _ (Array.getElem?_eq_some_iff.1 (H.pb V hmV).1).1 (by simp [h1, h2]), t.block _ (Array.getElem?_eq_some_iff.1 (H.rb V hmV).1).1 (by simp [h3, h4])⟩
  have mine : w'.heap[T.gp]? = w.heap[T.gp]? := by
    have h3 := heap_ty_ne (H.pb T hm).1 (H.rb T hm).1 (by decide)
    have h4 := heap_ty_ne (H.pb T hm).1 hg (by decide)
    exact t.block _ (Array.getElem?_eq_some_iff.1 (H.pb T hm).1).1 (by simp [h3, h4])
  refine ⟨?_, H.lvb, fun V hV => ?_, fun V hV => ?_, fun k l V U hk hl hkl => ?_⟩
  · rw [e, List.length_set]
    exact row_keep H.row (fun q hq => t.block q (row_lt H.row q hq) (by
      simp only [List.mem_cons, List.not_mem_nil, or_false, not_or]
      exact ⟨fun e => hlg (by rw [← e]; exact hq.symm), fun e => hlp (by rw [← e]; exact hq.symm)⟩))
  · obtain ⟨k, hk⟩ := List.getElem?_of_mem hV
    rcases set_at_of hk with ⟨rfl, rfl⟩ | ⟨hn, hk⟩
    · show w'.heap[T.gp]? = _ ∧ _
      rw [mine]
      exact H.pb T hm
    · rw [(other k V hn hk).1]
      exact H.pb V (List.mem_of_getElem? hk)
  · obtain ⟨k, hk⟩ := List.getElem?_of_mem hV
    rcases set_at_of hk with ⟨rfl, rfl⟩ | ⟨hn, hk⟩
    · refine ⟨?_, (H.rb T hm).2⟩
      rw [hp]
      simp [List.map_set]
    · rw [(other k V hn hk).2]
      exact H.rb V (List.mem_of_getElem? hk)
  · rcases set_at_of hk with ⟨rfl, rfl⟩ | ⟨hn, hk2⟩
    · rcases set_at_of hl with ⟨rfl, rfl⟩ | ⟨hn2, hl⟩
      · exact absurd rfl hkl
      · exact H.dp _ _ T U hTi hl hkl
    · rcases set_at_of hl with ⟨rfl, rfl⟩ | ⟨hn2, hl⟩
      · exact H.dp _ _ V T hk2 hTi hkl
      · exact H.dp _ _ V U hk2 hl hkl

/-- A header is written. -/
theorem Mh.head (H : Mh w n0 g lv th) (hA : Ar w b g c x sw ws) (i : Nat) (T : Tng) (hTi : th[i]? = some T) (s k a t : Int) (h : Bool) (ga cap : Nat) (cs : Array Value) (hlv : lv = .slice (some ⟨ga, 0, none⟩) th.length cap) (hgc : w.heap[ga]? = some (.cells cs 81 (0, 0))) (tt : Touch [g, ga] w w') (hp : w'.heap[ga]? = some (.cells (set7 cs (i * 11) s k T.p T.r a t h) 81 (0, 0))) :
    Mh w' n0 g lv (th.set i { T with s := s, k := k, a := a, t := t, h := h }) := by
  obtain ⟨⟨gs, hg⟩, bs, hb⟩ := hA.rowTy
  have hi := (List.getElem?_eq_some_iff.1 hTi).1
  have keep : ∀ V, V ∈ th → w'.heap[V.gp]? = w.heap[V.gp]? ∧ w'.heap[V.gr]? = w.heap[V.gr]? := fun V hV => by
    have h1 := heap_ty_ne (H.pb V hV).1 hgc (by decide)
    have h2 := heap_ty_ne (H.pb V hV).1 hg (by decide)
    have h3 := heap_ty_ne (H.rb V hV).1 hgc (by decide)
    have h4 := (H.rb V hV).2.2
    exact ⟨tt.block _ (Array.getElem?_eq_some_iff.1 (H.pb V hV).1).1 (by simp [h1, h2]), tt.block _ (Array.getElem?_eq_some_iff.1 (H.rb V hV).1).1 (by simp [h3, h4])⟩
  have hm := List.mem_of_getElem? hTi
  refine ⟨?_, H.lvb, fun V hV => ?_, fun V hV => ?_, fun k l V U hk hl hkl => ?_⟩
  · rcases H.row.2 with ⟨h1, h2⟩ | ⟨q, cap', cur, h1, h2, h3, hn, hc, hs, ht⟩
    · omega
    · have hq : q = ga := by rw [hlv] at h1; simp at h1; exact h1.1.symm
      subst hq
      have hcc : cs = cur := by rw [hgc] at h3; simpa using h3
      subst hcc
      refine ⟨by rw [tflat_len], .inr ⟨q, cap', _, by rw [List.length_set]; exact h1, h2, hp, by rw [List.length_set]; exact hn, hc, by rw [set7_size]; exact hs, ?_⟩⟩
      apply List.ext_getElem?
      intro m
      rw [List.length_set]
      by_cases hml : m < th.length * 11
      · rw [List.getElem?_take, if_pos hml, Array.getElem?_toList]
        obtain ⟨i', j, hj, rfl⟩ : ∃ i' j, j < 11 ∧ m = i' * 11 + j := ⟨m / 11, m % 11, Nat.mod_lt _ (by decide), by omega⟩
        have hi' : i' < th.length := by omega
        have old : ∀ V, th[i']? = some V → cs[i' * 11 + j]? = V.cells[j]? := fun V hV => by
          rw [← tflat_at th i' V j hV hj, ← ht, List.getElem?_take, if_pos hml, Array.getElem?_toList]
        by_cases e : i' = i
        · subst e
          have hU : (th.set i' { T with s := s, k := k, a := a, t := t, h := h })[i']? = some { T with s := s, k := k, a := a, t := t, h := h } := by rw [List.getElem?_set, if_pos rfl, if_pos hi']
          rw [tflat_at _ i' _ j hU hj]
          have ho := old T hTi
          by_cases h7 : j < 2 ∨ 8 < j
          · rw [set7_out _ _ _ _ _ _ _ _ _ _ (by omega), ho]
            exact tc_same T s k a t h j hj h7
          · obtain ⟨j', hj', rfl⟩ : ∃ j', j' < 7 ∧ j = 2 + j' := ⟨j - 2, by omega, by omega⟩
            have := set7_in cs (i' * 11) j' s k T.p T.r a t h (by rw [hs]; have := Nat.mul_le_mul_right 11 (show i' + 1 ≤ cap' by omega); omega) hj'
            rw [← Nat.add_assoc, this]
            exact tc_mid T s k a t h j' hj'
        · obtain ⟨V, hV⟩ : ∃ V, th[i']? = some V := ⟨_, List.getElem?_eq_getElem hi'⟩
          have hV2 : (th.set i { T with s := s, k := k, a := a, t := t, h := h })[i']? = some V := by rw [List.getElem?_set, if_neg (Ne.symm e)]; exact hV
          rw [tflat_at _ i' V j hV2 hj, set7_out _ _ _ _ _ _ _ _ _ _ (by omega), old V hV]
      · rw [List.getElem?_take, if_neg hml, List.getElem?_eq_none (by rw [tflat_len, List.length_set]; omega)]
  · obtain ⟨k', hk⟩ := List.getElem?_of_mem hV
    rcases set_at_of hk with ⟨rfl, rfl⟩ | ⟨hn, hk⟩
    · show w'.heap[T.gp]? = _ ∧ _
      rw [(keep T hm).1]
      exact H.pb T hm
    · rw [(keep V (List.mem_of_getElem? hk)).1]
      exact H.pb V (List.mem_of_getElem? hk)
  · obtain ⟨k', hk⟩ := List.getElem?_of_mem hV
    rcases set_at_of hk with ⟨rfl, rfl⟩ | ⟨hn, hk⟩
    · show w'.heap[T.gr]? = _ ∧ _
      rw [(keep T hm).2]
      exact H.rb T hm
    · rw [(keep V (List.mem_of_getElem? hk)).2]
      exact H.rb V (List.mem_of_getElem? hk)
  · rcases set_at_of hk with ⟨rfl, rfl⟩ | ⟨hn, hk2⟩
    · rcases set_at_of hl with ⟨rfl, rfl⟩ | ⟨hn2, hl⟩
      · exact absurd rfl hkl
      · exact H.dp _ _ T U hTi hl hkl
    · rcases set_at_of hl with ⟨rfl, rfl⟩ | ⟨hn2, hl⟩
      · exact H.dp _ _ V T hk2 hTi hkl
      · exact H.dp _ _ V U hk2 hl hkl
end

end Go.Proofs.YtbdkcelggffneaaDoor
