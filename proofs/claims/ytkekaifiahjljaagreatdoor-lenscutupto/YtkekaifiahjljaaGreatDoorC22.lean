import Derived.Test.YtkekaifiahjljaaGreatDoorC17
import Derived.Test.YtkekaifiahjljaaGreatDoorC15
import Derived.Deep.QuietTactic
import Derived.BigQuiet
import Derived.Deep.DeepFit
import Derived.Test.YtkekaifiahjljaaGreatDoorC18
set_option linter.unusedVariables false
set_option maxHeartbeats 8000000
set_option maxRecDepth 20000
namespace Go.Proofs.YtkekaifiahjljaaGreatDoor
open Go.RowKit Go.Shelf
theorem infoST : (Tryz.prog.info? 135).map (fun i => (i.zero, i.size, i.bytes)) = some (some (.agg #[.int .i64 0, .int .i64 0]), 2, 16) := by kernel_rfl
def stl (xs : List (Nat × Nat)) : List Value := xs.flatMap (fun x => [.int .i64 (x.1 : Nat), .int .i64 (x.2 : Nat)])
abbrev stc (x : Nat × Nat) : Array Value := #[.int .i64 (x.1 : Nat), .int .i64 (x.2 : Nat)]
theorem stl_len (xs : List (Nat × Nat)) : (stl xs).length = xs.length * 2 := by
  unfold stl
  induction xs with
  | nil => rfl
  | cons x r ih => simp only [List.flatMap_cons, List.length_append, List.length_cons, List.length_nil] at ih ⊢; omega
theorem stl_snoc (xs : List (Nat × Nat)) (x : Nat × Nat) : stl (xs ++ [x]) = stl xs ++ [.int .i64 (x.1 : Nat), .int .i64 (x.2 : Nat)] := by
  unfold stl
  rw [List.flatMap_append]
  rfl
def StS (W : World) (base b : Nat) (xs : List (Nat × Nat)) (F : List Nat) : Prop :=
  ∃ v : Value, W.heap[b]? = some (.cells #[v, .int .i64 0] 179 (0, 0)) ∧ base ≤ b ∧ W.ownsRow base 135 2 v xs.length (stl xs) ∧ F = b :: v.ownBlock.toList
theorem row_ne2 {w : World} {b base t n s : Nat} {cs : Array Value} {v : Value} {xs : List Value} {e : Nat} (hh : w.heap[b]? = some (.cells cs t (0, 0))) (hr : w.ownsRow base e s v n xs) (hte : t ≠ e := by decide) : some b ≠ v.ownBlock := by
  intro h
  rcases hr.2 with ⟨rfl, _⟩ | ⟨g, cap, cur, rfl, _, hg, _⟩
  · simp [Value.ownBlock] at h
  · simp only [Value.ownBlock, Option.some.injEq] at h
    subst h
    rw [hh] at hg
    simp only [Option.some.injEq, Obj.cells.injEq] at hg
    exact hte hg.2.1
theorem StS.mem {W : World} {base b : Nat} {xs : List (Nat × Nat)} {F : List Nat} (h : StS W base b xs F) : ∀ k, k ∈ F → base ≤ k ∧ k < W.heap.size := by
  obtain ⟨v, hh, hb, hr, rfl⟩ := h
  intro k hk
  rcases List.mem_cons.1 hk with rfl | hk
  · exact ⟨hb, Kg.heap_lt hh⟩
  · exact hr.lt k (by simpa using hk)
theorem StS.keep {W W' : World} {base b : Nat} {xs : List (Nat × Nat)} {F G : List Nat} (h : StS W base b xs F) (ht : Kg.Touch G W W') (ha : ∀ k, k ∈ F → k ∉ G) : StS W' base b xs F := by
  obtain ⟨v, hh, hb, hr, rfl⟩ := h
  exact ⟨v, (ht.block b (Kg.heap_lt hh) (ha b (by simp))).trans hh, hb, Kg.row_keep2 hr ht (fun k hk => ha k (by simp [hk])), rfl⟩
theorem slenS_any (b : Nat) (v : Value) (n : Nat) (w : World) (base : Nat) (xs : List Value) (hc : w.cell? ⟨b, 0, none⟩ = some v) (hr : w.ownsRow base 135 2 v n xs) :
    Calls Tryz.prog 162 #[.pointer (some ⟨b, 0, none⟩)] w fun e w' => e = .returned (.int .i64 n) ∧ w' = w := by
  rcases hr.2 with ⟨rfl, rfl⟩ | ⟨g, cap, cur, rfl, _⟩
  · clear hr
    go_enter Tryz.func162, Tryz.ntmps162
    go_wp2
    go_ret
    exact ⟨rfl, rfl⟩
  · clear hr
    go_enter Tryz.func162, Tryz.ntmps162
    go_wp2
    go_ret
    exact ⟨rfl, rfl⟩
theorem newstackS_any (w : World) :
    Calls Tryz.prog 105 #[.int .i64 0] w fun e w' => e = .returned (.tuple #[.pointer (some ⟨w.heap.size, 0, none⟩), .int .i64 0]) ∧ StS w' w.heap.size w.heap.size [] [w.heap.size] ∧ Kg.Touch [] w w' ∧ w'.heap.size = w.heap.size + 1 := by
  go_enter Tryz.func105, Tryz.ntmps105
  go_wp2
  go_ret2
  exact ⟨rfl, ⟨.slice none 0 0, heap_alloc_new w _, Nat.le_refl _, World.ownsRow_nil _ _ _ _, rfl⟩, Kg.Touch.alloc _ _ _, by simp⟩
theorem cells_new17 (w : World) (cs : Array Value) (t : TypeId) : ∀ (j : Nat) u, cs.toList[j]? = some u → (w.alloc (.cells cs t)).cell? ((⟨w.heap.size, 0, none⟩ : Addr).add j) = some u := by
  intro j u hu
  have e := cell_of_row _ _ j _ _ _ (heap_alloc_new w (.cells cs t (0, 0)))
  rw [Addr.add_lit, Nat.zero_add, e, ← Array.getElem?_toList]
  exact hu
theorem StS.push {w2 w8 : World} {base b : Nat} {v v8 : Value} {xs : List (Nat × Nat)} {x : Nat × Nat} {o : Obj} (hh : w2.heap[b]? = some (.cells #[v, .int .i64 0] 179 (0, 0))) (hb : base ≤ b) (hr : w2.ownsRow base 135 2 v xs.length (stl xs))
    (h8 : w8.ownsRow base 135 2 v8 (xs.length + 1) (stl xs ++ (stc x).toList)) (g8 : (w2.alloc o).grownBy w8 v.ownBlock) (e8 : v8.ownBlock = v.ownBlock ∨ v8.ownBlock = some (w2.alloc o).heap.size) :
    ∃ a c, v8 = .slice a (xs.length + 1) c ∧ w8.cell? ⟨b, 0, none⟩ = some v ∧ w8.frozen? ⟨b, 0, none⟩ = false ∧ Hid (StS (w8.setCell ⟨b, 0, none⟩ v8) base b (xs ++ [x]) (b :: v8.ownBlock.toList) ∧ Kg.Touch (b :: v.ownBlock.toList) w2 (w8.setCell ⟨b, 0, none⟩ v8) ∧ Kg.Newer w2.heap.size (b :: v.ownBlock.toList) (b :: v8.ownBlock.toList)) := by
  have hne := row_ne2 hh hr
  have h10 : (w2.alloc o).heap.size = w2.heap.size + 1 := by simp
  rw [h10] at e8
  have t9 : Kg.Touch v.ownBlock.toList w2 w8 := (Kg.Touch.alloc _ w2 o).trans (Kg.Touch.grown g8 (fun k hk => by rw [Option.mem_toList]; exact hk.symm ▸ rfl))
  have hbn : b ∉ v.ownBlock.toList := fun hm => by rw [Option.mem_toList] at hm; exact hne hm.symm
  have hh8 := (t9.block _ (Kg.heap_lt hh) hbn).trans hh
  obtain ⟨a, c, rfl⟩ := own_sl17 h8
  have hne8 := row_ne2 hh8 h8
  have tS : Kg.Touch [b] w8 (w8.setCell ⟨b, 0, none⟩ (.slice a (xs.length + 1) c)) := Kg.Touch.setCell _ _ _ (by simp)
  refine ⟨a, c, rfl, Kg.heap_cell hh8 0, Kg.heap_frozen hh8 0, ⟨_, ?_, hb, ?_, rfl⟩, ?_, fun k hk => ?_⟩
  · rw [Kg.heap_set hh8]; rfl
  · have h11 := Kg.row_keep2 h8 tS (fun k hk => by simp only [List.mem_singleton]; exact fun e => hne8 (by rw [hk, e]))
    rw [stl_snoc, List.length_append]
    exact h11
  · exact (t9.mono (fun k hk => .inl (by simp [hk]))).trans (Kg.Touch.setCell _ _ _ (by simp))
  · rcases List.mem_cons.1 hk with rfl | h1
    · exact .inl (by simp)
    · rw [Option.mem_toList] at h1
      rcases e8 with h2 | h2
      · exact .inl (by rw [h2] at h1; simp [h1])
      · rw [h2] at h1; cases h1; exact .inr (by omega)
theorem pushS_any (b base : Nat) (x : Nat × Nat) (xs : List (Nat × Nat)) (F : List Nat) (w : World) (hs : StS w base b xs F) (hbase : base ≤ w.heap.size) (hlen : xs.length < 10000000000) :
    Calls Tryz.prog 108 #[.pointer (some ⟨b, 0, none⟩), .agg (stc x)] w fun e w' => e = .returned (.int .i64 0) ∧ ∃ F', StS w' base b (xs ++ [x]) F' ∧ Kg.Touch F w w' ∧ Kg.Newer w.heap.size F F' := by
  obtain ⟨v, hh, hb, hr, rfl⟩ := hs
  have Hh : Hid (w.heap[b]? = some (.cells #[v, .int .i64 0] 179 (0, 0))) := hh
  have Hb : Hid (base ≤ b) := hb
  have Hr : Hid (w.ownsRow base 135 2 v xs.length (stl xs)) := hr
  have Hn : Hid (some b ≠ v.ownBlock) := row_ne2 hh hr
  obtain ⟨i0, hi, hz0, hz1, hz2⟩ := info_parts infoST
  have HI : Hid (Tryz.prog.info? 135 = some i0 ∧ i0.zero = some (.agg #[.int .i64 0, .int .i64 0]) ∧ i0.size = 2 ∧ i0.bytes = 16) := ⟨hi, hz0, hz1, hz2⟩
  clear hi hz0 hz1 hz2 hb hh hr
  have b1 : Below w.heap.size w (w.alloc (.cells (stc x) 135)) := Below.alloc (Below.refl _ _) (Nat.le_refl _) _
  have hx := heap_alloc_new w (.cells (stc x) 135 (0, 0))
  have hsz : (w.alloc (.cells (stc x) 135)).heap.size = w.heap.size + 1 := by simp
  go_enter Tryz.func108, Tryz.ntmps108
  go_upto_region 1 with fail
  change Code.wp _ _ _ _ (w.alloc (.cells (stc x) 135))
  obtain ⟨A, hA⟩ : ∃ A, A = w.heap.size := ⟨_, rfl⟩
  rw [← hA] at hx hsz b1 ⊢
  have HBl : Hid (b < A) := by show _ < _; rw [hA]; exact Kg.heap_lt Hh.out
  have HAw : Hid (A = w.heap.size) := hA
  clear hA
  generalize w.alloc (.cells (stc x) 135) = w1 at *
  have HB1 : Hid (Below A w w1) := b1
  have HX1 : Hid (w1.heap[A]? = some (.cells (stc x) 135 (0, 0))) := hx
  have H1 : Hid (w1.heap[b]? = some (.cells #[v, .int .i64 0] 179 (0, 0))) := (b1.block b HBl.out).trans Hh.out
  have HR1 : Hid (w1.ownsRow base 135 2 v xs.length (stl xs)) := Kg.row_keep2 (G := []) Hr.out (Kg.Touch.of_below (by rw [HAw.out] at b1; exact b1) []) (fun _ _ => by simp)
  have hc0 : w1.cell? ⟨b, 0, none⟩ = some v := Kg.heap_cell H1.out 0
  have hc1 : w1.cell? ⟨b, 1, none⟩ = some (.int .i64 0) := Kg.heap_cell H1.out 1
  have ha0 : w1.cell? ⟨A, 0, none⟩ = some (.int .i64 (x.1 : Nat)) := Kg.heap_cell hx 0
  have ha1 : w1.cell? ⟨A, 1, none⟩ = some (.int .i64 (x.2 : Nat)) := Kg.heap_cell hx 1
  have hf0 := Kg.heap_frozen H1.out 0
  have hd : decide (0 < (0 : Int) ∧ (0 : Int) ≤ (xs.length : Int)) = false := by simp
  have HSz : Hid (w1.heap.size = A + 1 ∧ base ≤ A) := ⟨hsz, by rw [HAw.out]; exact hbase⟩
  clear hx b1 hsz Hh Hr
  go_quiet (first | (go_at_call 162; exact Calls.quiet_of_same (slenS_any b v xs.length _ base (stl xs) hc0 HR1.out)) | (go_at_call 100; exact Calls.quiet_of_same (Kg.full_any _ _ _)))
  rw [hd]
  have HRd : Hid ((w1.drewN nq).ownsRow base 135 2 v xs.length (stl xs)) := HR1.out
  have HBd : Hid (Below A w (w1.drewN nq)) := ⟨HB1.out.os, HB1.out.tape, HB1.out.output, HB1.out.size, HB1.out.block⟩
  have HSd : Hid ((w1.drewN nq).heap.size = A + 1 ∧ base ≤ A) := HSz.out
  have Hd1 : Hid ((w1.drewN nq).heap[b]? = some (.cells #[v, .int .i64 0] 179 (0, 0))) := H1.out
  have Hda : Hid ((w1.drewN nq).heap[A]? = some (.cells (stc x) 135 (0, 0))) := HX1.out
  clear hc0 hc1 ha0 ha1 hf0 HR1 HB1 HSz H1 HX1
  generalize w1.drewN nq = w2 at *
  have hc0 : w2.cell? ⟨b, 0, none⟩ = some v := Kg.heap_cell Hd1.out 0
  have ha0 : w2.cell? ⟨A, 0, none⟩ = some (.int .i64 (x.1 : Nat)) := Kg.heap_cell Hda.out 0
  have ha1 : w2.cell? ⟨A, 1, none⟩ = some (.int .i64 (x.2 : Nat)) := Kg.heap_cell Hda.out 1
  have HRow : Hid ((w2.drew.alloc (.cells (stc x) 135)).ownsRow base 135 2 v xs.length (stl xs)) := Kg.row_keep2 (G := []) HRd.out ((Kg.Touch.drew _ w2).trans (Kg.Touch.alloc _ _ _)) (fun _ _ => by simp)
  have HP : Hid (∀ v8 w8, w8.ownsRow base 135 2 v8 (xs.length + 1) (stl xs ++ (stc x).toList) → (w2.drew.alloc (.cells (stc x) 135)).grownBy w8 v.ownBlock → (v8.ownBlock = v.ownBlock ∨ v8.ownBlock = some (w2.drew.alloc (.cells (stc x) 135)).heap.size) → _) := fun v8 w8 h8 g8 e8 => StS.push (w2 := w2.drew) Hd1.out Hb.out HRd.out h8 g8 e8
  have hcA : (w2.alloc (.cells #[.int .i64 (x.1 : Nat), .int .i64 (x.2 : Nat)] 135)).cell? ⟨b, 0, none⟩ = some v := (Below.cell (p := ⟨b, 0, none⟩) (Below.alloc (Below.refl w2.heap.size w2) (Nat.le_refl _) _) (Kg.heap_lt Hd1.out)).trans hc0
  go_upto_region 3 with fail
  go_region_law (refine step_append_own_at rfl (.tmp 16) (.tmp 18) 177 rfl base 135 i0 (.agg #[.int .i64 0, .int .i64 0]) 2 16 Tryz.underlying177 HI.out.1 HI.out.2.1 HI.out.2.2.1 HI.out.2.2.2 rfl (by decide) v xs.length (stl xs) rfl HRow.out ⟨w2.drew.heap.size, 0, none⟩ 1 1 (stc x).toList rfl rfl (cells_new17 w2.drew (stc x) 135) (by simp [Value.oneCell']) (by simp only [maxLen]; omega) (by omega) (by have := HSd.out; simp; omega) ?_; intro v8 w8 h8 g8 e8; obtain ⟨a8, c8, rfl, d8, z8, HN⟩ := HP.out v8 w8 h8 g8 e8)
  all_goals
    have FIN : Hid (∃ F', StS (w8.setCell ⟨b, 0, none⟩ (.slice a8 (xs.length + 1) c8)) base b (xs ++ [x]) F' ∧ Kg.Touch (b :: v.ownBlock.toList) w (w8.setCell ⟨b, 0, none⟩ (.slice a8 (xs.length + 1) c8)) ∧ Kg.Newer w.heap.size (b :: v.ownBlock.toList) F') := by
      have hb2 := HBd.out
      rw [HAw.out] at hb2
      refine ⟨_, HN.out.1, ((Kg.Touch.of_below hb2 _).trans (Kg.Touch.drew _ _)).trans HN.out.2.1, fun k hk => ?_⟩
      rcases HN.out.2.2 k hk with h1 | h1
      · exact .inl h1
      · exact .inr (Nat.le_trans hb2.size h1)
    clear h8 g8 e8 d8 z8 HN HP HRow hcA hc0 ha0 ha1
    go_wp2
    go_ret
    exact ⟨rfl, FIN.out⟩
def twoS (w : World) : World := (w.alloc (.cells #[.int .i64 0, .int .i64 0] 135)).alloc (.cells #[.int .i64 0, .int .i64 0] 135)
theorem twoS_is (w : World) : Below w.heap.size w (twoS w) ∧ (twoS w).heap.size = w.heap.size + 2 ∧ (twoS w).heap[w.heap.size]? = some (.cells #[.int .i64 0, .int .i64 0] 135 (0, 0)) ∧ (twoS w).heap[w.heap.size + 1]? = some (.cells #[.int .i64 0, .int .i64 0] 135 (0, 0)) := by
  have b1 : Below w.heap.size w (w.alloc (.cells #[.int .i64 0, .int .i64 0] 135)) := Below.alloc (Below.refl _ _) (Nat.le_refl _) _
  have s1 : (w.alloc (.cells #[.int .i64 0, .int .i64 0] 135)).heap.size = w.heap.size + 1 := by simp
  have h1 := heap_alloc_new w (.cells #[.int .i64 0, .int .i64 0] 135 (0, 0))
  generalize hw1 : w.alloc (.cells #[.int .i64 0, .int .i64 0] 135) = w1 at *
  have b2 : Below w1.heap.size w1 (w1.alloc (.cells #[.int .i64 0, .int .i64 0] 135)) := Below.alloc (Below.refl _ _) (Nat.le_refl _) _
  have h2 := heap_alloc_new w1 (.cells #[.int .i64 0, .int .i64 0] 135 (0, 0))
  have e : twoS w = w1.alloc (.cells #[.int .i64 0, .int .i64 0] 135) := by unfold twoS; rw [hw1]
  rw [e]
  rw [s1] at h2
  exact ⟨b1.trans (b2.mono (by omega)), by simp; omega, (b2.block _ (by omega)).trans h1, h2⟩
theorem two_set {w : World} {A t : Nat} {a b : Value} (h : w.heap[A]? = some (.cells #[a, b] t (0, 0))) (u v : Value) : ((w.setCell ⟨A, 0, none⟩ u).setCell ⟨A, 1, none⟩ v).heap[A]? = some (.cells #[u, v] t (0, 0)) := by
  rw [Kg.heap_set (Kg.heap_set h 0 u) 1 v]
  rfl
theorem popS_none (b base : Nat) (F : List Nat) (w : World) (hs : StS w base b [] F) :
    Calls Tryz.prog 106 #[.pointer (some ⟨b, 0, none⟩)] w fun e w' => e = .returned (.tuple #[.agg #[.int .i64 0, .int .i64 0], .bool false]) ∧ StS w' base b [] F ∧ Below w.heap.size w w' := by
  have HF : Hid (∀ k, k ∈ F → base ≤ k ∧ k < w.heap.size) := hs.mem
  have HS : Hid (StS w base b [] F) := hs
  obtain ⟨v, hh, hb, hr, -⟩ := hs
  obtain ⟨t1, t2, t3, t4⟩ := twoS_is w
  have q := slenS_any b v 0 (twoS w) base (stl []) (Kg.heap_cell ((t1.block b (Kg.heap_lt hh)).trans hh) 0) (Kg.row_keep2 (G := []) hr (Kg.Touch.of_below t1 []) (fun _ _ => by simp))
  have HT : Hid (Below w.heap.size w (twoS w)) := t1
  clear hh hb hr
  go_enter Tryz.func106, Tryz.ntmps106
  go_upto_region 2 with fail
  change Code.wp _ _ _ _ (twoS w)
  obtain ⟨A, hA⟩ : ∃ A, A = w.heap.size := ⟨_, rfl⟩
  rw [← hA] at t3 t4 ⊢
  have HA : Hid (A = w.heap.size) := hA
  clear hA t1
  generalize twoS w = w1 at *
  have c0 := Kg.heap_cell t3 0
  have c1 := Kg.heap_cell t3 1
  have d0 := Kg.heap_cell t4 0
  have d1 := Kg.heap_cell t4 1
  have z0 := Kg.heap_frozen t3 0
  have z1 := Kg.heap_frozen t3 1
  have HT3 : Hid _ := t3
  clear t3 t4
  go_wp2_with fail
  refine q.mono ?_
  rintro e w' ⟨rfl, rfl⟩
  have H2 := two_set HT3.out (.int .i64 0) (.int .i64 0)
  have B2 : Below w.heap.size w ((w'.setCell ⟨A, 0, none⟩ (.int .i64 0)).setCell ⟨A, 1, none⟩ (.int .i64 0)) :=
    Below.setCell (p := ⟨A, 1, none⟩) (Below.setCell (p := ⟨A, 0, none⟩) HT.out (by show _ ≤ A; rw [HA.out]; exact Nat.le_refl _) _) (by show _ ≤ A; rw [HA.out]; exact Nat.le_refl _) _
  have HB2 : Hid (Below w.heap.size w ((w'.setCell ⟨A, 0, none⟩ (.int .i64 0)).setCell ⟨A, 1, none⟩ (.int .i64 0))) := B2
  clear B2
  go_wp2
  generalize (w'.setCell ⟨A, 0, none⟩ (.int .i64 0)).setCell ⟨A, 1, none⟩ (.int .i64 0) = w9 at *
  have k0 := Kg.heap_cell H2 0
  have k1 := Kg.heap_cell H2 1
  simp only [List.getElem?_toArray, List.getElem?_cons_zero, List.getElem?_cons_succ] at k0 k1
  refine bodyPost_ret (by simp [results, Tryz.results106, go_sem, k0, k1]; try rfl) rfl ?_
  exact ⟨rfl, HS.out.keep (G := []) (Kg.Touch.of_below HB2.out []) (fun _ _ => by simp), HB2.out⟩
theorem ownsRow_popped2 {w : World} {base g cap n : Nat} {e : TypeId} {xs : List Value} {x1 x2 z1 z2 : Value} (hl : xs.length = n * 2) (h : w.ownsRow base e 2 (.slice (some ⟨g, 0, none⟩) (n + 1) cap) (n + 1) (xs ++ [x1, x2])) :
    ((w.setCell ⟨g, n * 2, none⟩ z1).setCell ⟨g, n * 2 + 1, none⟩ z2).ownsRow base e 2 (.slice (some ⟨g, 0, none⟩) n cap) n xs := by
  obtain ⟨h1, h2⟩ := h
  rcases h2 with ⟨h2, _⟩ | ⟨g', cap', cur, hv, hb, hg, hn, hm, hs, ht⟩
  · simp at h2
  · simp only [Value.slice.injEq, Option.some.injEq, Addr.mk.injEq, true_and, and_true] at hv
    obtain ⟨rfl, rfl⟩ := hv
    refine ⟨by simp [hl], .inr ⟨g, cap, (cur.setIfInBounds (n * 2) z1).setIfInBounds (n * 2 + 1) z2, rfl, hb, Kg.heap_set (Kg.heap_set hg _ z1) _ z2, by omega, hm, by simp [hs], ?_⟩⟩
    rw [Array.toList_setIfInBounds, Array.toList_setIfInBounds, List.take_set_of_le (by omega), List.take_set_of_le (by omega)]
    have := congrArg (List.take (n * 2)) ht
    rw [List.take_take, Nat.min_eq_left (by omega)] at this
    rw [this, ← hl, List.take_left]
theorem row_last2 {w : World} {base g cap n : Nat} {e : TypeId} {xs : List Value} {x1 x2 : Value} (hl : xs.length = n * 2) (h : w.ownsRow base e 2 (.slice (some ⟨g, 0, none⟩) (n + 1) cap) (n + 1) (xs ++ [x1, x2])) :
    w.cell? ⟨g, n * 2, none⟩ = some x1 ∧ w.cell? ⟨g, n * 2 + 1, none⟩ = some x2 ∧ (∀ j, w.frozen? ⟨g, j, none⟩ = false) ∧ n + 1 ≤ cap ∧ base ≤ g ∧ g < w.heap.size := by
  rcases h.2 with ⟨h2, _⟩ | ⟨g', cap', cur, hv, hb, hg, hn, hm, hs, ht⟩
  · simp at h2
  · simp only [Value.slice.injEq, Option.some.injEq, Addr.mk.injEq, true_and, and_true] at hv
    obtain ⟨rfl, rfl⟩ := hv
    have key : ∀ j, j < 2 → cur[n * 2 + j]? = (xs ++ [x1, x2])[n * 2 + j]? := fun j hj => by
      rw [← ht, List.getElem?_take, if_pos (by omega), Array.getElem?_toList]
    have k0 := key 0 (by omega)
    have k1 := key 1 (by omega)
    rw [List.getElem?_append_right (by omega), hl] at k0 k1
    rw [Nat.add_sub_cancel_left] at k0 k1
    exact ⟨(Kg.heap_cell hg _).trans k0, (Kg.heap_cell hg _).trans k1, fun j => Kg.heap_frozen hg j, hn, hb, Kg.heap_lt hg⟩
theorem popS_any (b base : Nat) (x : Nat × Nat) (xs : List (Nat × Nat)) (F : List Nat) (w : World) (hs : StS w base b (xs ++ [x]) F) (hlen : xs.length < 10000000000) :
    Calls Tryz.prog 106 #[.pointer (some ⟨b, 0, none⟩)] w fun e w' => e = .returned (.tuple #[.agg (stc x), .bool true]) ∧ StS w' base b xs F ∧ Kg.Touch F w w' := by
  obtain ⟨v, hh, hb, hr, rfl⟩ := hs
  rw [stl_snoc, List.length_append] at hr
  simp only [List.length_cons, List.length_nil, Nat.zero_add] at hr
  obtain ⟨g, cap, rfl⟩ : ∃ g cap, v = .slice (some ⟨g, 0, none⟩) (xs.length + 1) cap := by
    rcases hr.2 with ⟨-, h2⟩ | ⟨g, cap, cur, rfl, _⟩
    · omega
    · exact ⟨g, cap, rfl⟩
  have hne : b ≠ g := fun e => absurd (by simp [Value.ownBlock, e]) (row_ne2 hh hr)
  have hne' : g ≠ b := fun e => hne e.symm
  have hl2 := stl_len xs
  obtain ⟨t1, t2, t3, t4⟩ := twoS_is w
  have hr1 : (twoS w).ownsRow base 135 2 (.slice (some ⟨g, 0, none⟩) (xs.length + 1) cap) (xs.length + 1) (stl xs ++ [.int .i64 (x.1 : Nat), .int .i64 (x.2 : Nat)]) := Kg.row_keep2 (G := []) hr (Kg.Touch.of_below t1 []) (fun _ _ => by simp)
  have hh1 := (t1.block b (Kg.heap_lt hh)).trans hh
  have q := slenS_any b _ (xs.length + 1) (twoS w) base _ (Kg.heap_cell hh1 0) hr1
  obtain ⟨r0, r1, rz, rc, rg, rgs⟩ := row_last2 hl2 hr
  have HR : Hid (w.ownsRow base 135 2 (.slice (some ⟨g, 0, none⟩) (xs.length + 1) cap) (xs.length + 1) (stl xs ++ [.int .i64 (x.1 : Nat), .int .i64 (x.2 : Nat)])) := hr
  have HH : Hid (w.heap[b]? = some (.cells #[.slice (some ⟨g, 0, none⟩) (xs.length + 1) cap, .int .i64 0] 179 (0, 0))) := hh
  have HT : Hid (Below w.heap.size w (twoS w)) := t1
  have c0 : (twoS w).cell? ⟨b, 0, none⟩ = some (.slice (some ⟨g, 0, none⟩) (xs.length + 1) cap) := Kg.heap_cell hh1 0
  have e0 : (twoS w).cell? ⟨g, xs.length * 2, none⟩ = some (.int .i64 (x.1 : Nat)) := (Below.cell (p := ⟨g, xs.length * 2, none⟩) t1 rgs).trans r0
  have e1 : (twoS w).cell? ⟨g, xs.length * 2 + 1, none⟩ = some (.int .i64 (x.2 : Nat)) := (Below.cell (p := ⟨g, xs.length * 2 + 1, none⟩) t1 rgs).trans r1
  have HB : Hid (base ≤ b) := hb
  have hbw := Kg.heap_lt hh
  clear hh hb hr hr1 hh1 r0 r1 rz
  go_enter Tryz.func106, Tryz.ntmps106
  go_upto_region 2 with fail
  change Code.wp _ _ _ _ (twoS w)
  obtain ⟨A, hA⟩ : ∃ A, A = w.heap.size := ⟨_, rfl⟩
  rw [← hA] at t2 t3 t4 hbw rgs ⊢
  have HA : Hid (A = w.heap.size) := hA
  clear hA t1
  generalize twoS w = w1 at *
  have HT3 : Hid _ := t3
  have HT4 : Hid _ := t4
  clear t3 t4
  go_wp2_with fail
  refine q.mono ?_
  rintro e w' ⟨rfl, rfl⟩
  go_wp2_with fail
  refine q.mono ?_
  rintro e w' ⟨rfl, rfl⟩
  clear q
  go_upto_region 6 with fail
  have b2 : Below w.heap.size w (w'.alloc (.cells #[.int .i64 (x.1 : Nat), .int .i64 (x.2 : Nat)] 135)) := HT.out.trans (Below.alloc (Below.refl w.heap.size w') (by rw [t2, HA.out]; omega) _)
  have h6 : (w'.alloc (.cells #[.int .i64 (x.1 : Nat), .int .i64 (x.2 : Nat)] 135)).heap[A + 2]? = some (.cells #[.int .i64 (x.1 : Nat), .int .i64 (x.2 : Nat)] 135 (0, 0)) := by
    have h9 := heap_alloc_new w' (.cells #[.int .i64 (x.1 : Nat), .int .i64 (x.2 : Nat)] 135 (0, 0))
    rw [t2] at h9
    exact h9
  have h3 : (w'.alloc (.cells #[.int .i64 (x.1 : Nat), .int .i64 (x.2 : Nat)] 135)).heap[A]? = some (.cells #[.int .i64 0, .int .i64 0] 135 (0, 0)) := ((Below.alloc (Below.refl w'.heap.size w') (Nat.le_refl _) _).block A (by omega)).trans HT3.out
  have h4 : (w'.alloc (.cells #[.int .i64 (x.1 : Nat), .int .i64 (x.2 : Nat)] 135)).heap[A + 1]? = some (.cells #[.int .i64 0, .int .i64 0] 135 (0, 0)) := ((Below.alloc (Below.refl w'.heap.size w') (Nat.le_refl _) _).block (A + 1) (by omega)).trans HT4.out
  have HB2 : Hid (Below w.heap.size w (w'.alloc (.cells #[.int .i64 (x.1 : Nat), .int .i64 (x.2 : Nat)] 135))) := b2
  have HH6 : Hid ((w'.alloc (.cells #[.int .i64 (x.1 : Nat), .int .i64 (x.2 : Nat)] 135)).heap[A + 2]? = some (.cells #[.int .i64 (x.1 : Nat), .int .i64 (x.2 : Nat)] 135 (0, 0))) := h6
  have HH3 : Hid ((w'.alloc (.cells #[.int .i64 (x.1 : Nat), .int .i64 (x.2 : Nat)] 135)).heap[A]? = some (.cells #[.int .i64 0, .int .i64 0] 135 (0, 0))) := h3
  have HH4 : Hid ((w'.alloc (.cells #[.int .i64 (x.1 : Nat), .int .i64 (x.2 : Nat)] 135)).heap[A + 1]? = some (.cells #[.int .i64 0, .int .i64 0] 135 (0, 0))) := h4
  clear c0 e0 e1 t2 HT HT3 HT4 b2 h6 h3 h4
  generalize w'.alloc (.cells #[.int .i64 (x.1 : Nat), .int .i64 (x.2 : Nat)] 135) = w2 at *
  have HRw : Hid (w2.ownsRow base 135 2 (.slice (some ⟨g, 0, none⟩) (xs.length + 1) cap) (xs.length + 1) (stl xs ++ [.int .i64 (x.1 : Nat), .int .i64 (x.2 : Nat)])) := Kg.row_keep2 (G := []) HR.out (Kg.Touch.of_below HB2.out []) (fun _ _ => by simp)
  have HHb : Hid (w2.heap[b]? = some (.cells #[.slice (some ⟨g, 0, none⟩) (xs.length + 1) cap, .int .i64 0] 179 (0, 0))) := (HB2.out.block b (by have := HA.out; omega)).trans HH.out
  have c0 := Kg.heap_cell HHb.out 0
  have d0 := Kg.heap_cell HH4.out 0
  have d1 := Kg.heap_cell HH4.out 1
  obtain ⟨r0, r1, rz, -, -, -⟩ := row_last2 hl2 HRw.out
  have rz0 := rz (xs.length * 2)
  have rz1 := rz (xs.length * 2 + 1)
  clear rz
  simp only [List.getElem?_toArray, List.getElem?_cons_zero, List.getElem?_cons_succ] at c0 d0 d1
  refine Kg.quiet_tail 7 Kg.mixed (by kernel_rfl) ?_
  simp only [List.take_succ_cons, List.take_zero, List.drop_succ_cons, List.drop_zero]
  repeat (go_big_quiet_step (fail))
  refine wpQuiet_nil ?_
  have t3 : Kg.Touch [g] w2 (((w2.setCell ⟨g, xs.length * 2, none⟩ (.int .i64 0)).setCell ⟨g, xs.length * 2 + 1, none⟩ (.int .i64 0)).drew) := ((Kg.Touch.setCell _ _ _ (by simp)).trans (Kg.Touch.setCell _ _ _ (by simp))).trans (Kg.Touch.drew _ _)
  have HT3 : Hid (Kg.Touch [g] w2 (((w2.setCell ⟨g, xs.length * 2, none⟩ (.int .i64 0)).setCell ⟨g, xs.length * 2 + 1, none⟩ (.int .i64 0)).drew)) := t3
  have HP3 : Hid ((((w2.setCell ⟨g, xs.length * 2, none⟩ (.int .i64 0)).setCell ⟨g, xs.length * 2 + 1, none⟩ (.int .i64 0)).drew).ownsRow base 135 2 (.slice (some ⟨g, 0, none⟩) xs.length cap) xs.length (stl xs)) := ownsRow_popped2 hl2 HRw.out
  have hlt6 := Kg.heap_lt HH6.out
  have HK6 : Hid ((((w2.setCell ⟨g, xs.length * 2, none⟩ (.int .i64 0)).setCell ⟨g, xs.length * 2 + 1, none⟩ (.int .i64 0)).drew).heap[A + 2]? = some (.cells #[.int .i64 (x.1 : Nat), .int .i64 (x.2 : Nat)] 135 (0, 0))) := (t3.block _ hlt6 (by simp; omega)).trans HH6.out
  have HK3 : Hid ((((w2.setCell ⟨g, xs.length * 2, none⟩ (.int .i64 0)).setCell ⟨g, xs.length * 2 + 1, none⟩ (.int .i64 0)).drew).heap[A]? = some (.cells #[.int .i64 0, .int .i64 0] 135 (0, 0))) := (t3.block _ (by omega) (by simp; omega)).trans HH3.out
  have HKb : Hid ((((w2.setCell ⟨g, xs.length * 2, none⟩ (.int .i64 0)).setCell ⟨g, xs.length * 2 + 1, none⟩ (.int .i64 0)).drew).heap[b]? = some (.cells #[.slice (some ⟨g, 0, none⟩) (xs.length + 1) cap, .int .i64 0] 179 (0, 0))) := (t3.block _ (by omega) (by simpa using hne)).trans HHb.out
  clear t3
  go_upto_region 7 with fail
  clear r0 r1 rz0 rz1 c0 d0 d1 HRw HHb
  generalize ((w2.setCell ⟨g, xs.length * 2, none⟩ (.int .i64 0)).setCell ⟨g, xs.length * 2 + 1, none⟩ (.int .i64 0)).drew = w3 at *
  have c0 := Kg.heap_cell HKb.out 0
  have z0 := Kg.heap_frozen HKb.out 0
  simp only [List.getElem?_toArray, List.getElem?_cons_zero] at c0
  have t4 : Kg.Touch [b] w3 (w3.setCell ⟨b, 0, none⟩ (.slice (some ⟨g, 0, none⟩) xs.length cap)) := Kg.Touch.setCell _ _ _ (by simp)
  have HS4 : Hid (StS (w3.setCell ⟨b, 0, none⟩ (.slice (some ⟨g, 0, none⟩) xs.length cap)) base b xs [b, g]) := by
    refine ⟨.slice (some ⟨g, 0, none⟩) xs.length cap, ?_, HB.out, Kg.row_keep2 HP3.out t4 (fun k hk => ?_), rfl⟩
    · rw [Kg.heap_set HKb.out]; rfl
    · simp only [Value.ownBlock, Option.some.injEq] at hk
      subst hk
      simpa using hne'
  have HK6' : Hid ((w3.setCell ⟨b, 0, none⟩ (.slice (some ⟨g, 0, none⟩) xs.length cap)).heap[A + 2]? = some (.cells #[.int .i64 (x.1 : Nat), .int .i64 (x.2 : Nat)] 135 (0, 0))) := (t4.block _ (Kg.heap_lt HK6.out) (by simp; omega)).trans HK6.out
  have HK3' : Hid ((w3.setCell ⟨b, 0, none⟩ (.slice (some ⟨g, 0, none⟩) xs.length cap)).heap[A]? = some (.cells #[.int .i64 0, .int .i64 0] 135 (0, 0))) := (t4.block _ (Kg.heap_lt HK3.out) (by simp; omega)).trans HK3.out
  have HT4 : Hid (Kg.Touch [b, g] w (w3.setCell ⟨b, 0, none⟩ (.slice (some ⟨g, 0, none⟩) xs.length cap))) := ((Kg.Touch.of_below HB2.out _).trans (HT3.out.mono (fun k hk => .inl (by simp at hk; simp [hk])))).trans (t4.mono (fun k hk => .inl (by simp at hk; simp [hk])))
  clear t4 HP3 HKb HT3 HB2 HK3 HK6
  go_upto_region 8 with fail
  generalize w3.setCell ⟨b, 0, none⟩ (.slice (some ⟨g, 0, none⟩) xs.length cap) = w4 at *
  have k0 := Kg.heap_cell HK6'.out 0
  have k1 := Kg.heap_cell HK6'.out 1
  have j0 := Kg.heap_cell HK3'.out 0
  have j1 := Kg.heap_cell HK3'.out 1
  have z3 := Kg.heap_frozen HK3'.out 0
  have z4 := Kg.heap_frozen HK3'.out 1
  simp only [List.getElem?_toArray, List.getElem?_cons_zero, List.getElem?_cons_succ] at k0 k1 j0 j1
  have H9 := two_set HK3'.out (.int .i64 (x.1 : Nat)) (.int .i64 (x.2 : Nat))
  have T9 : Hid (Kg.Touch [A] w4 ((w4.setCell ⟨A, 0, none⟩ (.int .i64 (x.1 : Nat))).setCell ⟨A, 1, none⟩ (.int .i64 (x.2 : Nat)))) := (Kg.Touch.setCell _ _ _ (by simp)).trans (Kg.Touch.setCell _ _ _ (by simp))
  clear c0 z0
  go_wp2
  generalize (w4.setCell ⟨A, 0, none⟩ (.int .i64 (x.1 : Nat))).setCell ⟨A, 1, none⟩ (.int .i64 (x.2 : Nat)) = w9 at *
  have m0 := Kg.heap_cell H9 0
  have m1 := Kg.heap_cell H9 1
  simp only [List.getElem?_toArray, List.getElem?_cons_zero, List.getElem?_cons_succ] at m0 m1
  refine bodyPost_ret (by simp [results, Tryz.results106, go_sem, m0, m1]; try rfl) rfl ?_
  refine ⟨rfl, HS4.out.keep T9.out (fun k hk => ?_), HT4.out.then T9.out (fun k hk => .inr ?_)⟩
  · simp only [List.mem_cons, List.not_mem_nil, or_false] at hk ⊢
    rcases hk with rfl | rfl <;> omega
  · have := HA.out
    simp only [List.mem_cons, List.not_mem_nil, or_false] at hk
    omega
end Go.Proofs.YtkekaifiahjljaaGreatDoor
