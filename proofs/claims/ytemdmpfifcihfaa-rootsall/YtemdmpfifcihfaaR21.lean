/-
  The asker; Update.
-/
import Derived.Test.YtemdmpfifcihfaaR20
set_option linter.unusedVariables false
namespace Go.Proofs.Ytemdmpfifcihfaa
open Go.RowKit

/-- A list of numbers that came in, in a block below n. -/
def Came (n : Nat) (W : World) (a : Option Addr) (l : List Int) : Prop := ∀ (i : Nat) x, l[i]? = some x → ∃ g off, a = some ⟨g, off, none⟩ ∧ g < n ∧ W.cell? ⟨g, off + i, none⟩ = some (.int .i64 x)

theorem Came.keep {n : Nat} {W W' : World} {a : Option Addr} {l : List Int} (h : Came n W a l) (hb : ∀ k, k < n → W'.heap[k]? = W.heap[k]?) : Came n W' a l := fun i x hi => by
  obtain ⟨g, off, e, hg, hc⟩ := h i x hi
  exact ⟨g, off, e, hg, (World.cell?_of_block (w := W) (hb g hg)).trans hc⟩

set_option maxRecDepth 20000 in
set_option maxHeartbeats 2000000 in
theorem ask_core (n0 K base cap : Nat) (x : Int) (a : Option Addr) (l : List Int) (v : Value) (xs : List Int) (w : World) (hh : w.heap[K]? = some (.cells #[.slice a l.length cap, v] 56 (0, 0))) (hr : w.ownsRow base 3 1 v xs.length (ints xs)) (hbase : base ≤ w.heap.size) (hlen : xs.length < 8796093022208)
    (hto : Came n0 w a l) (hnK : n0 ≤ K) (hnb : n0 ≤ base) :
    Calls Try.prog 30 #[.pointer (some ⟨K, 0, none⟩), .int .i64 x] w fun e w' => e = .returned (.int .i64 (l.getD xs.length 0)) ∧
      ∃ v' w1, w' = w1.setCell ⟨K, 1, none⟩ v' ∧ w1.ownsRow base 3 1 v' (xs.length + 1) (ints xs ++ [.int .i64 x]) ∧ (w.alloc (.cells #[.int .i64 x] 3)).grownBy w1 v.ownBlock ∧ (v'.ownBlock = v.ownBlock ∨ v'.ownBlock = some (w.heap.size + 1)) := by
  have hc0 := heap_cell hh 0
  have hc1 := heap_cell hh 1
  simp only [List.getElem?_toArray, List.getElem?_cons_zero, List.getElem?_cons_succ] at hc0 hc1
  have hf1 := heap_frozen hh 1
  have hbl := heap_lt hh
  have hne : some K ≠ v.ownBlock := row_ne hh hr
  obtain ⟨i0, hi, hz0, hz1, hz2⟩ := info_parts Try.infoInt
  obtain ⟨a1, q1, ev⟩ := own_slice hr
  have Hto : Hid (Came n0 w a l) := hto
  have Hr : Hid (w.ownsRow base 3 1 v xs.length (ints xs)) := hr
  have Hlt : Hid (∀ k, v.ownBlock = some k → base ≤ k) := fun k e => (hr.lt k e).1
  have Hne : Hid (some K ≠ v.ownBlock) := hne
  have Hv : Hid (v = .slice a1 xs.length q1) := ev
  rw [ev] at hc1
  clear hh hto hr hne ev
  go_enter Try.func30, Try.ntmps30
  have hr2 : Hid (w.ownsRow base 3 1 (.slice a1 xs.length q1) xs.length (ints xs)) := by rw [← Hv.out]; exact Hr.out
  go_wp2_with (at_builtin; refine wpList_append_own_at _ rfl _ _ 31 rfl base 3 i0 (.int .i64 0) 1 8 Try.underlying31 hi hz0 hz1 hz2 rfl (by decide) _ _ _ rfl (hr2.out.alloc _) ⟨w.heap.size, 0, none⟩ 1 1 [.int .i64 x] rfl rfl (cell_one_new _ _ _) (by simp [Value.oneCell']) (by simp [maxLen]; omega) (by omega) (by simp; omega) ?_)
  intro v' w1 hown' hgrow _ hat
  obtain ⟨g', cap', rfl⟩ := ownsRow_succ hown'
  rw [← Hv.out] at hgrow hat
  have hcw : w1.cell? ⟨K, 1, none⟩ = some (.slice a1 xs.length q1) := hgrow.cell (a := ⟨K, 1, none⟩) ((World.grownBy_alloc w _ none).cell (a := ⟨K, 1, none⟩) hc1 (by simp)) Hne.out
  have hcn : w1.cell? ⟨K, 0, none⟩ = some (.slice a l.length cap) := hgrow.cell (a := ⟨K, 0, none⟩) ((World.grownBy_alloc w _ none).cell (a := ⟨K, 0, none⟩) hc0 (by simp)) Hne.out
  have hfw : w1.frozen? ⟨K, 1, none⟩ = false := by
    rw [World.frozen?_of_block (w := w.alloc (.cells #[.int .i64 x] 3)) (hgrow.block K (by simp; omega) Hne.out), World.frozen?_of_block (w := w) (Below.heap_alloc _ _ K hbl)]
    exact hf1
  have hto1 : Came n0 w1 a l := Hto.out.keep (fun k hk => by
    rw [hgrow.block k (by simp; omega) (fun e => by have := Hlt.out k e.symm; omega)]
    exact Below.heap_alloc w _ k (by omega))
  have HF : Hid (w1.ownsRow base 3 1 (.slice (some ⟨g', 0, none⟩) (xs.length + 1) cap') (xs.length + 1) (ints xs ++ [.int .i64 x]) ∧ (w.alloc (.cells #[.int .i64 x] 3)).grownBy w1 v.ownBlock ∧ ((Value.slice (some ⟨g', 0, none⟩) (xs.length + 1) cap').ownBlock = v.ownBlock ∨ (Value.slice (some ⟨g', 0, none⟩) (xs.length + 1) cap').ownBlock = some (w.heap.size + 1))) := ⟨hown', hgrow, by simpa using hat⟩
  clear hown' hgrow hat hr2 Hr Hto Hne Hv hc0 hc1 hf1
  by_cases hlt : xs.length < l.length
  · obtain ⟨y, hy⟩ : ∃ y, l[xs.length]? = some y := ⟨_, List.getElem?_eq_getElem hlt⟩
    obtain ⟨g, off, rfl, hg, hcy⟩ := hto1 _ y hy
    have He : Hid (l.getD xs.length 0 = y) := by show l.getD xs.length 0 = y; rw [List.getD_eq_getElem?_getD, hy]; rfl
    have hne2 : K ≠ g := by omega
    have hcy2 : (w1.setCell ⟨K, 1, none⟩ (.slice (some ⟨g', 0, none⟩) (xs.length + 1) cap')).cell? ⟨g, off + xs.length, none⟩ = some (.int .i64 y) := (World.cell?_of_block (w := w1) (Below.heap_setCell _ _ _ _ (Ne.symm hne2))).trans hcy
    have hcn2 : (w1.setCell ⟨K, 1, none⟩ (.slice (some ⟨g', 0, none⟩) (xs.length + 1) cap')).cell? ⟨K, 0, none⟩ = some (.slice (some ⟨g, off, none⟩) l.length cap) := (cell_set_ne w1 K 1 0 _ (by omega)).trans hcn
    have hli : (xs.length : Int) < (l.length : Int) := by omega
    clear hto1 hy hcy Hlt
    go_wp2
    go_ret
    exact ⟨by rw [He.out]; rfl, _, w1, rfl, HF.out⟩
  · have He : Hid (l.getD xs.length 0 = 0) := by show l.getD xs.length 0 = 0; rw [List.getD_eq_getElem?_getD, List.getElem?_eq_none (by omega)]; rfl
    have hcn2 : (w1.setCell ⟨K, 1, none⟩ (.slice (some ⟨g', 0, none⟩) (xs.length + 1) cap')).cell? ⟨K, 0, none⟩ = some (.slice a l.length cap) := (cell_set_ne w1 K 1 0 _ (by omega)).trans hcn
    have hli : ¬ (xs.length : Int) < (l.length : Int) := by omega
    clear hto1 Hlt
    go_wp2
    go_ret
    exact ⟨rfl, _, w1, rfl, HF.out⟩

/-- What Update's mover knows between two roots; the asker lies in block K. -/
structure JU (w0 : World) (F : List Nat) (K n0 : Nat) (a : Option Addr) (l : List Int) (cap : Nat) (X : List Nat) (pre : List Int) (W : World) : Prop where
  li : ∃ v, W.heap[K]? = some (.cells #[.slice a l.length cap, v] 56 (0, 0)) ∧ W.ownsRow w0.heap.size 3 1 v pre.length (ints pre) ∧ ∀ k, v.ownBlock = some k → k ∉ X
  bx : K ∉ X
  kn : n0 ≤ K
  nw : n0 ≤ w0.heap.size
  xs : ∀ k, k ∈ X → k ∈ F ∨ w0.heap.size ≤ k
  xn : ∀ k, k ∈ X → n0 ≤ k
  xl : ∀ k, k ∈ X → k < W.heap.size
  tv : Came n0 W a l
  tt : Touch (K :: F) w0 W

theorem JU.less {w0 : World} {F : List Nat} {K n0 : Nat} {a : Option Addr} {l : List Int} {cap : Nat} {X : List Nat} {pre : List Int} {W : World} {k0 : Nat} (h : JU w0 F K n0 a l cap (k0 :: X) pre W) : JU w0 F K n0 a l cap X pre W := by
  obtain ⟨v, hb, hr, hv⟩ := h.li
  exact ⟨⟨v, hb, hr, fun k e hk => hv k e (by simp [hk])⟩, fun hk => h.bx (by simp [hk]), h.kn, h.nw, fun k hk => h.xs k (by simp [hk]), fun k hk => h.xn k (by simp [hk]), fun k hk => h.xl k (by simp [hk]), h.tv, h.tt⟩

theorem JU.keep {w0 : World} {F : List Nat} {K n0 : Nat} {a : Option Addr} {l : List Int} {cap : Nat} {X : List Nat} {pre : List Int} {W W' : World} (h : JU w0 F K n0 a l cap X pre W) (ht : Touch X W W') : JU w0 F K n0 a l cap X pre W' := by
  obtain ⟨v, hb, hr, hv⟩ := h.li
  refine ⟨⟨v, (ht.block K (heap_lt hb) h.bx).trans hb, own_keep (k := 0) hr (fun k e => ht.block k (hr.lt k e).2 (hv k e)), hv⟩, h.bx, h.kn, h.nw, h.xs, h.xn, fun k hk => Nat.lt_of_lt_of_le (h.xl k hk) ht.size, h.tv.keep (fun k hk => ht.block k (by have := h.tt.size; have := h.nw; omega) (fun hm => by have := h.xn k hm; omega)), h.tt.then ht (fun k hk => ?_)⟩
  rcases h.xs k hk with h1 | h1
  · exact .inl (by simp [h1])
  · exact .inr h1

theorem JU.more {w0 : World} {F : List Nat} {K n0 : Nat} {a : Option Addr} {l : List Int} {cap : Nat} {X : List Nat} {pre : List Int} {W : World} (h : JU w0 F K n0 a l cap X pre W) (o : Obj) : JU w0 F K n0 a l cap (W.heap.size :: X) pre (W.alloc o) := by
  obtain ⟨v, hb, hr, hv⟩ := h.li
  have hsz := h.tt.size
  have hnw := h.nw
  refine ⟨⟨v, (Below.heap_alloc W _ K (heap_lt hb)).trans hb, hr.alloc _, fun k e hk => ?_⟩, fun hk => ?_, h.kn, h.nw, fun k hk => ?_, fun k hk => ?_, fun k hk => ?_, h.tv.keep (fun k hk => Below.heap_alloc W _ k (by omega)), h.tt.trans (Touch.alloc _ _ _)⟩
  · rcases List.mem_cons.1 hk with rfl | hk
    · have := (hr.lt _ e).2; omega
    · exact hv k e hk
  · rcases List.mem_cons.1 hk with rfl | hk
    · have := heap_lt hb; omega
    · exact h.bx hk
  · rcases List.mem_cons.1 hk with rfl | hk
    · exact .inr h.tt.size
    · exact h.xs k hk
  · rcases List.mem_cons.1 hk with rfl | hk
    · omega
    · exact h.xn k hk
  · rcases List.mem_cons.1 hk with rfl | hk
    · simp
    · have := h.xl k hk; simp; omega

theorem JU.step {w0 : World} {F : List Nat} {K n0 : Nat} {a : Option Addr} {l : List Int} {cap : Nat} {X : List Nat} {pre : List Int} {W w1 : World} {v v' : Value} {x : Int} (h : JU w0 F K n0 a l cap X pre W) (hb : W.heap[K]? = some (.cells #[.slice a l.length cap, v] 56 (0, 0))) (hr : W.ownsRow w0.heap.size 3 1 v pre.length (ints pre)) (hv : ∀ k, v.ownBlock = some k → k ∉ X)
    (hown : w1.ownsRow w0.heap.size 3 1 v' (pre.length + 1) (ints pre ++ [.int .i64 x])) (hgrow : (W.alloc (.cells #[.int .i64 x] 3)).grownBy w1 v.ownBlock) (hat : v'.ownBlock = v.ownBlock ∨ v'.ownBlock = some (W.heap.size + 1)) :
    JU w0 F K n0 a l cap X (pre ++ [x]) (w1.setCell ⟨K, 1, none⟩ v') ∧ (∀ k, k ∈ X → (w1.setCell ⟨K, 1, none⟩ v').heap[k]? = W.heap[k]?) ∧ W.heap.size ≤ (w1.setCell ⟨K, 1, none⟩ v').heap.size := by
  have hne : some K ≠ v.ownBlock := row_ne hb hr
  have hb1 : w1.heap[K]? = some (.cells #[.slice a l.length cap, v] 56 (0, 0)) := by
    rw [hgrow.block K (by have := heap_lt hb; simp; omega) hne]; exact (Below.heap_alloc W _ K (heap_lt hb)).trans hb
  have hne' : some K ≠ v'.ownBlock := row_ne hb1 hown
  have ta : Touch (K :: v.ownBlock.toList) W (w1.setCell ⟨K, 1, none⟩ v') := ((Touch.alloc _ _ _).trans (Touch.grown hgrow (fun k hk => by simp [hk]))).trans (Touch.setCell _ _ _ (by simp))
  have hx : ∀ k, k ∈ X → (w1.setCell ⟨K, 1, none⟩ v').heap[k]? = W.heap[k]? := fun k hk => ta.block k (h.xl k hk) (fun hm => by
    rcases List.mem_cons.1 hm with rfl | hm
    · exact h.bx hk
    · exact hv k (by simpa using hm) hk)
  have hsz := h.tt.size
  have hnw := h.nw
  have hkn := h.kn
  refine ⟨⟨⟨v', ?_, ?_, fun k e hk => ?_⟩, h.bx, h.kn, h.nw, h.xs, h.xn, fun k hk => Nat.lt_of_lt_of_le (h.xl k hk) ta.size, h.tv.keep (fun k hk => ta.block k (by omega) (fun hm => ?_)), h.tt.then ta (fun k hk => ?_)⟩, hx, ta.size⟩
  · rw [heap_set hb1]; rfl
  · have := ownsRow_setOther hown (a := ⟨K, 1, none⟩) hne' v'
    simpa using this
  · rcases hat with e2 | e2
    · exact hv k (e2 ▸ e) hk
    · rw [e2] at e; simp only [Option.some.injEq] at e; have := h.xl k hk; omega
  · rcases List.mem_cons.1 hm with rfl | hm
    · omega
    · have := (hr.lt k (by simpa using hm)).1; omega
  · rcases List.mem_cons.1 hk with rfl | hk
    · exact .inl (by simp)
    · exact .inr (hr.lt k (by simpa using hk)).1

set_option maxHeartbeats 1000000 in
theorem move_walk (K : Nat) (x y : Int) (W : World) (R : World → Prop)
    (ha : Calls Try.prog 30 #[.pointer (some ⟨K, 0, none⟩), .int .i64 x] (W.alloc (.cells #[.func (.func 30) #[.pointer (some ⟨K, 0, none⟩)] #[]] 97)) fun e W' => e = .returned (.int .i64 y) ∧ R W') :
    Calls Try.prog 49 #[.agg #[.func (.func 30) #[.pointer (some ⟨K, 0, none⟩)] #[]], .int .i64 x] W fun e W' => e = .returned (.int .i64 (adr y)) ∧ R W' := by
  go_enter Try.func49, Try.ntmps49
  go_wp2_with fail
  refine ha.mono ?_
  rintro e w1 ⟨rfl, hR⟩
  clear ha
  go_wp2_with fail
  refine (address_any y _).mono ?_
  rintro e w' ⟨rfl, rfl⟩
  go_wp2
  go_ret
  exact ⟨rfl, hR⟩

/-- What Update's function answers. -/
def ansU (l : List Int) (pre : List Int) (_ : Int) : Int := adr (l.getD pre.length 0)

theorem visU (w0 : World) (F : List Nat) (K n0 : Nat) (a : Option Addr) (l : List Int) (cap : Nat) : Vis 49 (.agg #[.func (.func 30) #[.pointer (some ⟨K, 0, none⟩)] #[]]) (ansU l) (JU w0 F K n0 a l cap) 8796093022208 := by
  refine ⟨enters_of Try.func49 (by kernel_rfl) rfl, fun X pre W W' h ht => h.keep ht, fun X pre W o h => h.more o, fun X pre x W h hx hm => ?_⟩
  have h1 := h.more (.cells #[.func (.func 30) #[.pointer (some ⟨K, 0, none⟩)] #[]] 97)
  obtain ⟨v, hb, hr, hv⟩ := h1.li
  have ha := ask_core n0 K w0.heap.size cap x a l v pre _ hb hr h1.tt.size hm h1.tv h.kn h.nw
  refine (move_walk K x _ W _ ha).mono ?_
  rintro e W' ⟨rfl, v', w1, rfl, hown, hgrow, hat⟩
  obtain ⟨h2, h3, h4⟩ := h1.step hb hr hv hown hgrow hat
  refine ⟨rfl, h2.less, fun k hk => ?_, ?_⟩
  · rw [h3 k (by simp [hk])]
    exact Below.heap_alloc W _ k (h.xl k hk)
  · simp at h4 ⊢; omega

theorem update_walk (b K : Nat) (w : World) (R : World → Prop)
    (he : Calls Try.prog 36 #[.pointer (some ⟨b, 0, none⟩), .func (.func 49) #[.agg #[.func (.func 30) #[.pointer (some ⟨K, 0, none⟩)] #[]]] #[]] w fun e w' => e = .returned (.tuple #[]) ∧ R w') :
    Calls Try.prog 29 #[.pointer (some ⟨b, 0, none⟩), .func (.func 30) #[.pointer (some ⟨K, 0, none⟩)] #[]] w fun e w' => e = .returned (.tuple #[]) ∧ R w' := by
  go_enter Try.func29, Try.ntmps29
  go_wp2_with fail
  refine he.mono ?_
  rintro e w1 ⟨rfl, hR⟩
  clear he
  go_wp2
  go_end0
  exact ⟨rfl, hR⟩

theorem update_any (base b N K n0 cap : Nat) (a : Option Addr) (l : List Int) (S : Sta) (F : List Nat) (w : World) (H : Rts w base b N S F) (hO : S.Ok) (hN : N < 8796092982208) (hK : w.heap[K]? = some (.cells #[.slice a l.length cap, .slice none 0 0] 56 (0, 0))) (hto : Came n0 w a l) (hKF : K ∉ F) (hn : n0 ≤ base) (hnK : n0 ≤ K) :
    Calls Try.prog 29 #[.pointer (some ⟨b, 0, none⟩), .func (.func 30) #[.pointer (some ⟨K, 0, none⟩)] #[]] w fun e w' => e = .returned (.tuple #[]) ∧ Rts w' base b N (S.vis (ansU l)) F ∧ (∃ v, w'.heap[K]? = some (.cells #[.slice a l.length cap, v] 56 (0, 0)) ∧ w'.ownsRow w.heap.size 3 1 v S.all.length (ints S.all)) ∧ Touch (K :: F) w w' := by
  obtain ⟨g, h, q, FQ, vs, H, rfl⟩ := H
  have hj : JU w (fp b g h FQ S.T vs) K n0 a l cap (fp b g h FQ S.T vs) [] w :=
    ⟨⟨_, hK, World.ownsRow_nil _ _ _ _, fun k e => by simp [Value.ownBlock] at e⟩, hKF, hnK, by have := heap_lt hK; omega, fun k hk => .inl hk, fun k hk => by have := (H.mem k hk).1; omega, fun k hk => (H.mem k hk).2, hto, Touch.refl _ _⟩
  have he := each_vis (visU w (fp b g h FQ S.T vs) K n0 a l cap) base b g h q N FQ vs S (fp b g h FQ S.T vs) w H hO hj (fun k hk => hk) (fun k hk => (H.mem k hk).2) (by omega) (by omega)
  refine (update_walk b K w _ he).mono ?_
  rintro e w' ⟨rfl, hR, ⟨X', hJ⟩, -⟩
  obtain ⟨v, hb, hr, -⟩ := hJ.li
  exact ⟨rfl, ⟨g, h, q, FQ, vs, hR, rfl⟩, ⟨v, hb, hr⟩, hJ.tt⟩

end Go.Proofs.Ytemdmpfifcihfaa
