import Derived.Test.YtckgcpoheodbcaaGreatDoorQ10
import Derived.RegionTactic
import Derived.ChangeAlike
import Derived.BigRegion
import Derived.Deep.RegionWith
import Derived.Test.YtckgcpoheodbcaaGreatDoorQ28
set_option linter.unusedVariables false
set_option maxHeartbeats 8000000
set_option maxRecDepth 20000
namespace Go.Proofs.YtckgcpoheodbcaaGreatDoor.Kg
open Go.RowKit
theorem held_some (b g cap n f : Nat) (w : World) (h0 : w.cell? ⟨b, 0, none⟩ = some (.slice (some ⟨g, 0, none⟩) n cap)) (h1 : w.cell? ⟨b, 1, none⟩ = some (.int .i64 f)) (hf : f ≤ n) (hn : n ≤ cap) (hc : cap ≤ maxLen) :
  Calls Tryz.prog 95 #[.pointer (some ⟨b, 0, none⟩)] w fun e w' => e = .returned (.slice (some (if cap = f then ⟨g, 0, none⟩ else ⟨g, f, none⟩)) (n - f) (cap - f)) ∧ ∃ nq, w' = w.drewN nq := by
 unfold maxLen at hc
 go_enter Tryz.func95, Tryz.ntmps95
 go_wp2
 go_quiet (fail)
 go_wp2
 all_goals
  go_ret
  exact ⟨by simp [*], nq, rfl⟩
theorem held_nil (b : Nat) (w : World) (h0 : w.cell? ⟨b, 0, none⟩ = some (.slice none 0 0)) (h1 : w.cell? ⟨b, 1, none⟩ = some (.int .i64 0)) :
  Calls Tryz.prog 95 #[.pointer (some ⟨b, 0, none⟩)] w fun e w' => e = .returned (.slice none 0 0) ∧ ∃ nq, w' = w.drewN nq := by
 go_enter Tryz.func95, Tryz.ntmps95
 go_wp2
 go_quiet (fail)
 go_wp2
 go_ret
 exact ⟨rfl, nq, rfl⟩
def Que (W : World) (base b : Nat) (most : Int) (N : Nat) (xs : List Int) (F : List Nat) : Prop :=
 ∃ (v : Value) (ts : List Int) (f : Nat), W.heap[b]? = some (.cells #[v, .int .i64 f, .int .i64 most] 104 (0, 0)) ∧ base ≤ b ∧ W.ownsRow base 3 1 v ts.length (ints ts) ∧
  f ≤ ts.length ∧ ts.drop f = xs ∧ ts.length ≤ N ∧ F = b :: v.ownBlock.toList
theorem Que.mem {W : World} {base b N : Nat} {most : Int} {xs : List Int} {F : List Nat} (h : Que W base b most N xs F) : ∀ k, k ∈ F → base ≤ k ∧ k < W.heap.size := by
 obtain ⟨v, ts, f, hh, hb, hr, _, _, _, rfl⟩ := h
 intro k hk
 rcases List.mem_cons.1 hk with rfl | hk
 ·exact ⟨hb, heap_lt hh⟩
 ·exact hr.lt k (by simpa using hk)
theorem Que.keep {W W' : World} {base b N : Nat} {most : Int} {xs : List Int} {F G : List Nat} (h : Que W base b most N xs F) (ht : Touch G W W') (ha : Apart F G) : Que W' base b most N xs F := by
 obtain ⟨v, ts, f, hh, hb, hr, h1, h2, h3, rfl⟩ := h
 refine ⟨v, ts, f, ?_, hb, ?_, h1, h2, h3, rfl⟩
 ·rw [ht.block b (heap_lt hh) (ha b (by simp))]; exact hh
 ·refine ⟨hr.1, ?_⟩
  rcases hr.2 with hn | ⟨g, cap, cur, rfl, hb', hg, rest⟩
  ·exact .inl hn
  ·refine .inr ⟨g, cap, cur, rfl, hb', ?_, rest⟩
   rw [ht.block g (heap_lt hg) (ha g (by simp [Value.ownBlock]))]; exact hg
theorem newqueue_any (m : Int) (hm : 0 ≤ m) (w : World) :
  Calls Tryz.prog 65 #[.int .i64 m] w fun e w' => e = .returned (.tuple #[.pointer (some ⟨w.heap.size, 0, none⟩), .int .i64 0]) ∧ w' = w.alloc (.cells #[.slice none 0 0, .int .i64 0, .int .i64 m] 104) := by
 have h1 : ¬ m < 0 := by omega
 go_enter Tryz.func65, Tryz.ntmps65
 go_wp2
 go_ret2
 exact ⟨rfl, rfl⟩
theorem newintqueue_any (m : Int) (hm : 0 ≤ m) (w : World) :
  Calls Tryz.prog 40 #[.int .i64 m] w fun e w' => e = .returned (.tuple #[.pointer (some ⟨w.heap.size, 0, none⟩), .int .i64 0]) ∧ Que w' w.heap.size w.heap.size m 0 [] [w.heap.size] ∧ Touch [] w w' ∧ w'.heap.size = w.heap.size + 1 := by
 go_enter Tryz.func40, Tryz.ntmps40
 go_wp2_with fail
 refine (newqueue_any m hm _).mono ?_
 rintro e w' ⟨rfl, rfl⟩
 go_wp2
 go_ret2
 exact ⟨rfl, ⟨.slice none 0 0, [], 0, heap_alloc_new w _, Nat.le_refl _, World.ownsRow_nil _ _ _ _, Nat.le_refl _, rfl, Nat.le_refl _, rfl⟩, Touch.alloc _ _ _, by simp⟩
theorem qlen_any (b f n base : Nat) (v : Value) (xs : List Value) (w : World) (h0 : w.cell? ⟨b, 0, none⟩ = some v) (h1 : w.cell? ⟨b, 1, none⟩ = some (.int .i64 f)) (hr : w.ownsRow base 3 1 v n xs) (hf : f ≤ n) :
  Calls Tryz.prog 66 #[.pointer (some ⟨b, 0, none⟩)] w fun e w' => e = .returned (.int .i64 ((n - f : Nat) : Int)) ∧ ∃ nq, w' = w.drewN nq := by
 rcases hr.2 with ⟨rfl, rfl⟩ | ⟨g, cap, cur, rfl, _, _, hn, hc, _⟩
 ·obtain rfl : f = 0 := by omega
  clear hr
  go_enter Tryz.func66, Tryz.ntmps66
  go_wp2_with fail
  refine (held_nil b _ h0 h1).mono ?_
  rintro e w' ⟨rfl, nq, rfl⟩
  go_wp2
  go_ret
  exact ⟨rfl, nq, rfl⟩
 ·clear hr
  have hh := held_some b g cap n f w h0 h1 hf hn hc
  generalize (if cap = f then (⟨g, 0, none⟩ : Addr) else ⟨g, f, none⟩) = a at hh
  go_enter Tryz.func66, Tryz.ntmps66
  go_wp2_with fail
  refine hh.mono ?_
  rintro e w' ⟨rfl, nq, rfl⟩
  go_wp2
  go_ret
  exact ⟨rfl, nq, rfl⟩
theorem put_core (b base f : Nat) (m x : Int) (v : Value) (ts : List Int) (w : World) (hh : w.heap[b]? = some (.cells #[v, .int .i64 f, .int .i64 m] 104 (0, 0))) (hr : w.ownsRow base 3 1 v ts.length (ints ts))
  (hbase : base ≤ w.heap.size) (hlen : ts.length < 8796093022208) (hf : f ≤ ts.length) (hroom : ¬ (0 < m ∧ m ≤ ((ts.length - f : Nat) : Int))) :
  Calls Tryz.prog 44 #[.pointer (some ⟨b, 0, none⟩), .int .i64 x] w fun e w' => e = .returned (.int .i64 0) ∧
   ∃ nq v' w1, w' = w1.setCell ⟨b, 0, none⟩ v' ∧ w1.ownsRow base 3 1 v' (ts.length + 1) (ints ts ++ [.int .i64 x]) ∧ ((w.drewN nq).alloc (.cells #[.int .i64 x] 3)).grownBy w1 v.ownBlock ∧ (v'.ownBlock = v.ownBlock ∨ v'.ownBlock = some (w.heap.size + 1)) := by
 have hc0 := heap_cell hh 0
 have hc1 := heap_cell hh 1
 have hc2 := heap_cell hh 2
 simp only [List.getElem?_toArray, List.getElem?_cons_zero, List.getElem?_cons_succ] at hc0 hc1 hc2
 have hf0 := heap_frozen hh 0
 have hbl := heap_lt hh
 have hne : some b ≠ v.ownBlock := row_ne hh hr
 clear hh
 have hd : decide (0 < m ∧ m ≤ ((ts.length - f : Nat) : Int)) = false := by simpa using hroom
 obtain ⟨i0, hi, hz0, hz1, hz2⟩ := info_parts Tryz.infoInt
 have hql := fun n => qlen_any b f ts.length base v (ints ts) (w.drewN n) hc0 hc1 hr hf
 generalize ((ts.length - f : Nat) : Int) = L at hql hd
 go_enter Tryz.func44, Tryz.ntmps44
 go_wp2
 go_quiet (first | (go_at_call 66; exact Calls.quiet_of (hql _)) | (go_at_call 71; exact Calls.quiet_of_same (full_any _ _ _)))
 rw [hd]
 have hr2 : (w.drewN nq).ownsRow base 3 1 v ts.length (ints ts) := hr
 go_wp2_with (at_builtin; refine wpList_append_own_at _ rfl _ _ 24 rfl base 3 i0 (.int .i64 0) 1 8 Tryz.underlying24 hi hz0 hz1 hz2 rfl (by decide) _ _ _ rfl (hr2.alloc _) ⟨w.heap.size, 0, none⟩ 1 1 [.int .i64 x] rfl rfl (cell_one_new _ _ _) (by simp [Value.oneCell']) (by simp [maxLen]; omega) (by omega) (by simp; omega) ?_)
 intro v' w1 hown' hgrow _ hat
 obtain ⟨g', cap', rfl⟩ := ownsRow_succ hown'
 have hcw : w1.cell? ⟨b, 0, none⟩ = some v := hgrow.cell (a := ⟨b, 0, none⟩) ((World.grownBy_alloc (w.drewN nq) _ none).cell (a := ⟨b, 0, none⟩) hc0 (by simp)) hne
 have hfw : w1.frozen? ⟨b, 0, none⟩ = false := by
  rw [World.frozen?_of_block (w := (w.drewN nq).alloc (.cells #[.int .i64 x] 3)) (hgrow.block b (by simp; omega) hne), World.frozen?_of_block (w := w.drewN nq) (Below.heap_alloc _ _ b hbl)]
  exact hf0
 go_wp2
 go_ret
 exact ⟨rfl, nq, _, w1, rfl, hown', hgrow, by simpa using hat⟩
theorem put_any (b base N : Nat) (m x : Int) (xs : List Int) (F : List Nat) (w : World) (hs : Que w base b m N xs F) (hbase : base ≤ w.heap.size) (hlen : N < 8796093022208) (hroom : ¬ (0 < m ∧ m ≤ xs.length)) :
  Calls Tryz.prog 44 #[.pointer (some ⟨b, 0, none⟩), .int .i64 x] w fun e w' => e = .returned (.int .i64 0) ∧
   ∃ F', Que w' base b m (N + 1) (xs ++ [x]) F' ∧ Touch F w w' ∧ Newer w.heap.size F F' := by
 obtain ⟨v, ts, f, hh, hb, hr, hf, rfl, hN, rfl⟩ := hs
 rw [List.length_drop] at hroom
 refine (put_core b base f m x v ts w hh hr hbase (by omega) hf hroom).mono ?_
 rintro e w' ⟨rfl, nq, v', w1, rfl, hown, hgrow, hat⟩
 have hne : some b ≠ v.ownBlock := row_ne hh hr
 have hh1 : w1.heap[b]? = some (.cells #[v, .int .i64 f, .int .i64 m] 104 (0, 0)) := by
  rw [hgrow.block b (by have := heap_lt hh; simp; omega) hne]; exact (Below.heap_alloc (w.drewN nq) _ b (heap_lt hh)).trans hh
 have hne' : some b ≠ v'.ownBlock := row_ne hh1 hown
 have ht : Touch (b :: v.ownBlock.toList) w w1 := ((Touch.drewN _ w nq).trans (Touch.alloc _ _ _)).trans (Touch.grown hgrow (fun k hk => by simp [hk]))
 refine ⟨rfl, b :: v'.ownBlock.toList, ⟨v', ts ++ [x], f, ?_, hb, ?_, by simp; omega, ?_, by simp; omega, rfl⟩, ht.trans (Touch.setCell _ _ _ (by simp)), ?_⟩
 ·rw [heap_set hh1]; rfl
 ·simpa using ownsRow_setOther hown (a := ⟨b, 0, none⟩) hne' v'
 ·rw [List.drop_append_of_le_length hf]
 ·intro k hk
  rcases List.mem_cons.1 hk with rfl | hk
  ·exact .inl (by simp)
  ·have hk' : v'.ownBlock = some k := by simpa using hk
   rcases hat with h1 | h1
   ·exact .inl (by rw [h1] at hk'; simp [hk'])
   ·rw [h1] at hk'; simp only [Option.some.injEq] at hk'; exact .inr (by omega)
end Go.Proofs.YtckgcpoheodbcaaGreatDoor.Kg
namespace Go.Proofs.YtckgcpoheodbcaaGreatDoor
open Go.RowKit Go.Shelf Go.Proofs.YtckgcpoheodbcaaGreatDoor.Lt
theorem meet1_any (B Q c2 c3 c4 bb m N : Nat) (tq : TypeId) (f : Nat → Int) (x b : Nat) (xs : List Int) (F : List Nat) (w : World) (h2 : w.heap[c2]? = some (Obj.cells #[.slice (some ⟨bb, 0, none⟩) m m] 24 (0, 0))) (h3 : w.heap[c3]? = some (Obj.cells #[.func (.func 55) #[] #[]] 93 (0, 0))) (h4 : w.heap[c4]? = some (Obj.cells #[.pointer (some ⟨Q, 0, none⟩)] tq (0, 0))) (hq4 : tq ≠ 3) (hb : Fy w bb m f) (hq : Kg.Que w B Q 0 N xs F) (hbF : bb ∉ F) (hx : x < m) (hB : B ≤ w.heap.size) (hN : N < 8796093022208) :
  Calls Tryz.prog 81 #[.int .i64 (x : Nat), .int .i64 (b : Nat), .pointer (some ⟨c2, 0, none⟩), .pointer (some ⟨c3, 0, none⟩), .pointer (some ⟨c4, 0, none⟩)] w fun e w' => e = .returned (.tuple #[]) ∧ (((x = 0 ∨ f x ≠ -1) ∧ w' = w) ∨ (x ≠ 0 ∧ f x = -1 ∧ ∃ F', Fy w' bb m (fun y => if y = x then (b : Int) else f y) ∧ Kg.Que w' B Q 0 (N + 1) (xs ++ [(x : Int)]) F' ∧ Kg.Touch (bb :: F) w w' ∧ Kg.Newer w.heap.size F F')) := by
 have d2 : w.cell? ⟨c2, 0, none⟩ = some (.slice (some ⟨bb, 0, none⟩) m m) := Kg.heap_cell h2 0
 have d3 : w.cell? ⟨c3, 0, none⟩ = some (.func (.func 55) #[] #[]) := Kg.heap_cell h3 0
 have d4 : w.cell? ⟨c4, 0, none⟩ = some (.pointer (some ⟨Q, 0, none⟩)) := Kg.heap_cell h4 0
 have db := hb.cell hx
 have fb := hb.frozen x
 have ql := lret1_any (x : Int) w
 have wt : Kg.Touch [bb] w (w.setCell ⟨bb, x, none⟩ (.int .i64 (b : Nat))) := Kg.Touch.setCell _ _ _ (by simp)
 have HY : Hid (Fy (w.setCell ⟨bb, x, none⟩ (.int .i64 (b : Nat))) bb m (fun y => if y = x then (b : Int) else f y) ∧ Kg.Que (w.setCell ⟨bb, x, none⟩ (.int .i64 (b : Nat))) B Q 0 N xs F ∧ Kg.Touch [bb] w (w.setCell ⟨bb, x, none⟩ (.int .i64 (b : Nat)))) := ⟨hb.set hx b, hq.keep wt (fun y hy h => by rw [List.mem_singleton] at h; rw [h] at hy; exact hbF hy), wt⟩
 have HC : Hid ((w.setCell ⟨bb, x, none⟩ (.int .i64 (b : Nat))).cell? ⟨c4, 0, none⟩ = some (.pointer (some ⟨Q, 0, none⟩))) := by
  obtain ⟨cs, hcs, -⟩ := id hb.ex
  have hne : c4 ∉ [bb] := by simp only [List.mem_singleton]; exact block_ne h4 hcs hq4
  exact Kg.heap_cell ((wt.block _ (Kg.heap_lt h4) hne).trans h4) 0
 have HBF : Hid (bb ∉ F ∧ B ≤ w.heap.size ∧ N < 8796093022208) := ⟨hbF, hB, hN⟩
 clear hb hq h2 h3 h4 hbF hB hN wt
 go_enter Tryz.func81, Tryz.ntmps81
 by_cases h0 : x = 0
 ·subst h0
  clear HY HC db fb ql
  go_wp2
  go_end0
  first | exact ⟨rfl, .inl ⟨.inl rfl, rfl⟩⟩ | exact ⟨rfl, .inl rfl⟩ | simp
 ·have g0 : ((x : Int) != 0) = true := bne_iff_ne.2 (by omega)
  by_cases h1 : f x = -1
  ·rw [h1] at db
   go_upto_region 1 with (go_at_call 55; refine ql.mono ?_; rintro e w1 ⟨rfl, rfl⟩)
   go_upto_region 2 with fail
   clear ql db fb d2 d3 d4
   generalize w1.setCell ⟨bb, x, none⟩ (.int .i64 (b : Nat)) = w5 at *
   have q := Kg.put_any Q B N 0 (x : Int) xs F w5 HY.out.2.1 (Nat.le_trans HBF.out.2.1 HY.out.2.2.size) HBF.out.2.2 (by omega)
   have d4 := HC.out
   go_wp2_with fail
   refine q.mono ?_
   rintro e w6 ⟨rfl, F', u1, u2, u3⟩
   have HR : Hid (∃ F', Fy w6 bb m (fun y => if y = x then (b : Int) else f y) ∧ Kg.Que w6 B Q 0 (N + 1) (xs ++ [(x : Int)]) F' ∧ Kg.Touch (bb :: F) w1 w6 ∧ Kg.Newer w1.heap.size F F') := ⟨F', HY.out.1.touch u2 HBF.out.1, u1, (HY.out.2.2.mono (fun k hk => .inl (by rw [List.mem_singleton.1 hk]; simp))).trans (u2.mono (fun k hk => .inl (List.mem_cons_of_mem _ hk))), fun y hy => (u3 y hy).imp id (fun h => Nat.le_trans HY.out.2.2.size h)⟩
   clear q u1 u2 u3 HY HC d4
   go_wp2
   go_end0
   exact ⟨rfl, .inr ⟨h0, h1, HR.out⟩⟩
  ·have g1 : (f x == -1) = false := beq_eq_false_iff_ne.2 h1
   have HE : Hid (f x ≠ -1) := h1
   clear HY HC fb ql h1
   go_wp2
   go_end0
   exact ⟨rfl, .inl ⟨.inr HE.out, rfl⟩⟩
theorem meet2_any (pn : Addr) (n : Nat) (B Q c2 c3 c4 bb m N : Nat) (tq : TypeId) (f : Nat → Int) (x b : Nat) (xs : List Int) (F : List Nat) (w : World) (h2 : w.heap[c2]? = some (Obj.cells #[.slice (some ⟨bb, 0, none⟩) m m] 24 (0, 0))) (h3 : w.heap[c3]? = some (Obj.cells #[.func (.func 61) #[] #[.pointer (some pn)]] 93 (0, 0))) (h4 : w.heap[c4]? = some (Obj.cells #[.pointer (some ⟨Q, 0, none⟩)] tq (0, 0))) (hq4 : tq ≠ 3) (hb : Fy w bb m f) (hq : Kg.Que w B Q 0 N xs F) (hbF : bb ∉ F) (hx : x < m) (hB : B ≤ w.heap.size) (hN : N < 8796093022208) (hp : w.cell? pn = some (.int .i64 (n : Nat))) :
  Calls Tryz.prog 81 #[.int .i64 (x : Nat), .int .i64 (b : Nat), .pointer (some ⟨c2, 0, none⟩), .pointer (some ⟨c3, 0, none⟩), .pointer (some ⟨c4, 0, none⟩)] w fun e w' => e = .returned (.tuple #[]) ∧ (((x = 0 ∨ f x ≠ -1 ∨ x = n) ∧ w' = w) ∨ (x ≠ 0 ∧ f x = -1 ∧ x ≠ n ∧ ∃ F', Fy w' bb m (fun y => if y = x then (b : Int) else f y) ∧ Kg.Que w' B Q 0 (N + 1) (xs ++ [(x : Int)]) F' ∧ Kg.Touch (bb :: F) w w' ∧ Kg.Newer w.heap.size F F')) := by
 have d2 : w.cell? ⟨c2, 0, none⟩ = some (.slice (some ⟨bb, 0, none⟩) m m) := Kg.heap_cell h2 0
 have d3 : w.cell? ⟨c3, 0, none⟩ = some (.func (.func 61) #[] #[.pointer (some pn)]) := Kg.heap_cell h3 0
 have d4 : w.cell? ⟨c4, 0, none⟩ = some (.pointer (some ⟨Q, 0, none⟩)) := Kg.heap_cell h4 0
 have db := hb.cell hx
 have fb := hb.frozen x
 have ql := lret2_any (x : Int) (n : Nat) pn w hp
 have wt : Kg.Touch [bb] w (w.setCell ⟨bb, x, none⟩ (.int .i64 (b : Nat))) := Kg.Touch.setCell _ _ _ (by simp)
 have HY : Hid (Fy (w.setCell ⟨bb, x, none⟩ (.int .i64 (b : Nat))) bb m (fun y => if y = x then (b : Int) else f y) ∧ Kg.Que (w.setCell ⟨bb, x, none⟩ (.int .i64 (b : Nat))) B Q 0 N xs F ∧ Kg.Touch [bb] w (w.setCell ⟨bb, x, none⟩ (.int .i64 (b : Nat)))) := ⟨hb.set hx b, hq.keep wt (fun y hy h => by rw [List.mem_singleton] at h; rw [h] at hy; exact hbF hy), wt⟩
 have HC : Hid ((w.setCell ⟨bb, x, none⟩ (.int .i64 (b : Nat))).cell? ⟨c4, 0, none⟩ = some (.pointer (some ⟨Q, 0, none⟩))) := by
  obtain ⟨cs, hcs, -⟩ := id hb.ex
  have hne : c4 ∉ [bb] := by simp only [List.mem_singleton]; exact block_ne h4 hcs hq4
  exact Kg.heap_cell ((wt.block _ (Kg.heap_lt h4) hne).trans h4) 0
 have HBF : Hid (bb ∉ F ∧ B ≤ w.heap.size ∧ N < 8796093022208) := ⟨hbF, hB, hN⟩
 clear hb hq h2 h3 h4 hbF hB hN wt
 go_enter Tryz.func81, Tryz.ntmps81
 by_cases h0 : x = 0
 ·subst h0
  clear HY HC db fb ql
  go_wp2
  go_end0
  first | exact ⟨rfl, .inl ⟨.inl rfl, rfl⟩⟩ | exact ⟨rfl, .inl rfl⟩ | simp
 ·have g0 : ((x : Int) != 0) = true := bne_iff_ne.2 (by omega)
  by_cases h1 : f x = -1
  ·rw [h1] at db
   by_cases hxn : x = n
   ·have gx : ((x : Int) == (n : Int)) = true := by rw [hxn]; simp
    rw [gx] at ql
    have HXN : Hid (x = n) := hxn
    clear HY HC fb hp hxn
    go_wp2_with fail
    refine ql.mono ?_
    rintro e w1 ⟨rfl, rfl⟩
    go_wp2
    go_end0
    exact ⟨rfl, .inl ⟨.inr (.inr HXN.out), rfl⟩⟩
   ·have gx : ((x : Int) == (n : Int)) = false := beq_eq_false_iff_ne.2 (by omega)
    rw [gx] at ql
    have HXN : Hid (x ≠ n) := hxn
    clear hp hxn
    go_upto_region 1 with (go_at_call 61; refine ql.mono ?_; rintro e w1 ⟨rfl, rfl⟩)
    go_upto_region 2 with fail
    clear ql db fb d2 d3 d4
    generalize w1.setCell ⟨bb, x, none⟩ (.int .i64 (b : Nat)) = w5 at *
    have q := Kg.put_any Q B N 0 (x : Int) xs F w5 HY.out.2.1 (Nat.le_trans HBF.out.2.1 HY.out.2.2.size) HBF.out.2.2 (by omega)
    have d4 := HC.out
    go_wp2_with fail
    refine q.mono ?_
    rintro e w6 ⟨rfl, F', u1, u2, u3⟩
    have HR : Hid (∃ F', Fy w6 bb m (fun y => if y = x then (b : Int) else f y) ∧ Kg.Que w6 B Q 0 (N + 1) (xs ++ [(x : Int)]) F' ∧ Kg.Touch (bb :: F) w1 w6 ∧ Kg.Newer w1.heap.size F F') := ⟨F', HY.out.1.touch u2 HBF.out.1, u1, (HY.out.2.2.mono (fun k hk => .inl (by rw [List.mem_singleton.1 hk]; simp))).trans (u2.mono (fun k hk => .inl (List.mem_cons_of_mem _ hk))), fun y hy => (u3 y hy).imp id (fun h => Nat.le_trans HY.out.2.2.size h)⟩
    clear q u1 u2 u3 HY HC d4
    go_wp2
    go_end0
    exact ⟨rfl, .inr ⟨h0, h1, HXN.out, HR.out⟩⟩
  ·have g1 : (f x == -1) = false := beq_eq_false_iff_ne.2 h1
   have HE : Hid (f x ≠ -1) := h1
   clear HY HC fb ql h1
   go_wp2
   go_end0
   exact ⟨rfl, .inl ⟨.inr (.inl HE.out), rfl⟩⟩
end Go.Proofs.YtckgcpoheodbcaaGreatDoor
namespace Go.Proofs.YtckgcpoheodbcaaGreatDoor
open Go.RowKit Go.Shelf Go.Proofs.YtckgcpoheodbcaaGreatDoor.Lt Go.Proofs.YtckgcpoheodbcaaGreatDoor.Lp
theorem byv_add {seq : List Nat} {by' : Nat → Nat} {x b : Nat} : (fun y => if y = x then (b : Int) else byv seq by' y) = byv (seq ++ [x]) (fun y => if y = x then b else by' y) := by
 funext y
 unfold byv
 show (if y = x then (b : Int) else if y ∈ seq then (by' y : Int) else -1) = if y ∈ seq ++ [x] then (((if y = x then b else by' y) : Nat) : Int) else -1
 by_cases e : y = x
 ·subst e
  rw [if_pos rfl, if_pos (by simp), if_pos rfl]
 ·rw [if_neg e, if_neg e]
  by_cases h : y ∈ seq
  ·rw [if_pos h, if_pos (List.mem_append_left _ h)]
  ·rw [if_neg h, if_neg (fun k => (List.mem_append.1 k).elim h (fun k => e (List.mem_singleton.1 k)))]
theorem ry_hg {W : Nat → List Nat} {P : List (Nat × Nat × Nat)} {d m : Nat} {seq : List Nat} {by' : Nat → Nat} (h : Ry W P d seq by') (hm : ∀ x, x ∈ seq → x < m) : Hg m seq by' :=
 ⟨fun x hx => ⟨hm x hx, (h.nz x hx).1⟩, fun j x hj => by
  rcases h.src j x hj with ⟨h1, -⟩ | ⟨h1, -⟩ | ⟨κ, -, h1, -⟩
  ·exact .inl h1
  ·exact .inr h1
  ·exact .inr h1⟩
theorem hold_iff {seq : List Nat} {by' : Nat → Nat} {e : Ep} : hold (byv seq by') e = true ↔ e.1 ∈ seq ∧ e.2.1 ∈ seq := by
 unfold hold
 rw [Bool.and_eq_true, bne_iff_ne, bne_iff_ne, ne_eq, ne_eq, byv_neg, byv_neg, Classical.not_not, Classical.not_not]
theorem ry_len {W : Nat → List Nat} {P : List (Nat × Nat × Nat)} {d m : Nat} {seq : List Nat} {by' : Nat → Nat} (h : Ry W P d seq by') (hm : ∀ x, x ∈ seq → x < m) : seq.length ≤ m := by
 have h1 := List.Nodup.length_le_of_subset h.nd (fun x hx => List.mem_range.2 (hm x hx))
 rw [List.length_range] at h1
 exact h1
end Go.Proofs.YtckgcpoheodbcaaGreatDoor
namespace Go.Proofs.YtckgcpoheodbcaaGreatDoor
open Go.RowKit Go.Shelf Go.Proofs.YtckgcpoheodbcaaGreatDoor.Lt
def wbF (wb R m : Nat) (vp : Value) (vs : Nat → Value) : List Nat := wb :: (vp.ownBlock.toList ++ llF R m vs)
theorem mem_wbF {wb R m k : Nat} {vp : Value} {vs : Nat → Value} : k ∈ wbF wb R m vp vs ↔ k = wb ∨ vp.ownBlock = some k ∨ k ∈ llF R m vs := by
 simp only [wbF, List.mem_cons, List.mem_append, Option.mem_toList]
variable {w w' : World} {B wb R m : Nat} {vw vp : Value} {vs : Nat → Value} {P : List Ep} {L : Nat → List Ep}
theorem Wb.mem (h : Wb w B wb R m vw vp vs P L) : ∀ k, k ∈ wbF wb R m vp vs → B ≤ k ∧ k < w.heap.size := fun k hk => by
 rcases mem_wbF.1 hk with rfl | h1 | h1
 ·exact ⟨h.lo, Kg.heap_lt h.h⟩
 ·exact World.ownsRow.lt h.p k h1
 ·exact h.l.mem k h1
theorem Wb.nR (h : Wb w B wb R m vw vp vs P L) : wb ∉ llF R m vs := fun hm => by
 rcases mem_llF.1 hm with h1 | ⟨i, hi, h1⟩
 ·obtain ⟨cs, h2, -⟩ := h.l.h
  rw [← h1, h.h] at h2
  simp only [Option.some.injEq, Obj.cells.injEq] at h2
  exact absurd h2.2.1 (by decide)
 ·exact row_ne2 h.h (h.l.l i hi) (by decide) h1.symm
theorem Wb.nP (h : Wb w B wb R m vw vp vs P L) : vp.ownBlock ≠ some wb := fun e => row_ne2 h.h h.p (by decide) e.symm
theorem Wb.keep (h : Wb w B wb R m vw vp vs P L) {G : List Nat} (ht : Kg.Touch G w w') (hG : ∀ k, k ∈ wbF wb R m vp vs → k ∉ G) : Wb w' B wb R m vw vp vs P L :=
 ⟨(ht.block _ (Kg.heap_lt h.h) (hG wb (mem_wbF.2 (.inl rfl)))).trans h.h, h.p.keep ht (fun k hk => hG k (mem_wbF.2 (.inr (.inl hk)))), h.l.keep ht (fun k hk => hG k (mem_wbF.2 (.inr (.inr hk)))), h.pl, h.lo⟩
theorem Wb.below (h : Wb w B wb R m vw vp vs P L) (hb : Below w.heap.size w w') : Wb w' B wb R m vw vp vs P L := h.keep (Kg.Touch.of_below hb []) (fun _ _ => List.not_mem_nil)
theorem Wb.push (h : Wb w B wb R m vw vp vs P L) {w8 : World} {v8 : Value} {e : Ep} (h8 : w8.ownsRow B 119 3 v8 (P.length + 1) (epl P ++ (epc e).toList)) (g8 : (w.alloc (.cells (epc e) 119)).grownBy w8 vp.ownBlock) (e8 : v8.ownBlock = vp.ownBlock ∨ v8.ownBlock = some (w.alloc (.cells (epc e) 119)).heap.size) :
  ∃ a8 c8, v8 = .slice a8 (P.length + 1) c8 ∧ w8.cell? ⟨wb, 1, none⟩ = some vp ∧ w8.frozen? ⟨wb, 1, none⟩ = false ∧ Hid (Wb (w8.setCell ⟨wb, 1, none⟩ v8) B wb R m vw v8 vs (P ++ [e]) L ∧ Kg.Touch (wbF wb R m vp vs) w (w8.setCell ⟨wb, 1, none⟩ v8) ∧ Kg.Newer w.heap.size (wbF wb R m vp vs) (wbF wb R m v8 vs)) := by
 obtain ⟨s1, s2, s3⟩ := Eo.snoc h.p h8 g8 e8
 obtain ⟨a8, c8, e9⟩ := own_sl17 h8
 have hwb : wb ∉ vp.ownBlock.toList := fun hm => by rw [Option.mem_toList] at hm; exact h.nP hm
 have hh8 := (s2.block _ (Kg.heap_lt h.h) hwb).trans h.h
 have hl8 := h.l.keep s2 (fun k hk hm => by rw [Option.mem_toList] at hm; exact h.pl k hm hk)
 have tS : Kg.Touch [wb] w8 (w8.setCell ⟨wb, 1, none⟩ v8) := Kg.Touch.setCell _ _ _ (by simp)
 have hw8 : v8.ownBlock ≠ some wb := fun e => row_ne2 hh8 s1 (by decide) e.symm
 have hlo := h.lo
 have hlt := Kg.heap_lt h.h
 refine ⟨a8, c8, e9, Kg.heap_cell hh8 1, Kg.heap_frozen hh8 1, ⟨Kg.heap_set hh8 1 v8, s1.keep tS (fun k hk hm => hw8 (by rw [hk, List.mem_singleton.1 hm])), hl8.keep tS (fun k hk hm => h.nR (by rw [← List.mem_singleton.1 hm]; exact hk)), fun k hk hm => ?_, h.lo⟩, ?_⟩
 ·rcases s3 k hk with h1 | h1
  ·exact h.pl k h1 hm
  ·have := (h.l.mem k hm).2
   omega
 ·refine ⟨(s2.mono (fun k hk => .inl (mem_wbF.2 (.inr (.inl (by rw [Option.mem_toList] at hk; exact hk)))))).trans (tS.mono (fun k hk => .inl (mem_wbF.2 (.inl (by simpa using hk))))), fun k hk => ?_⟩
  rcases mem_wbF.1 hk with h1 | h1 | h1
  ·exact .inl (mem_wbF.2 (.inl h1))
  ·rcases s3 k h1 with h2 | h2
   ·exact .inl (mem_wbF.2 (.inr (.inl h2)))
   ·exact .inr h2
  ·exact .inl (mem_wbF.2 (.inr (.inr h1)))
def lpt (L : Nat → List Ep) (i : Nat) (e : Ep) : Nat → List Ep := fun j => if j = i then L i ++ [e] else L j
theorem Wb.part (h : Wb w B wb R m vw vp vs P L) {i : Nat} (hi : i < m) {w8 : World} {v8 : Value} {e : Ep} (h8 : w8.ownsRow B 119 3 v8 ((L i).length + 1) (epl (L i) ++ (epc e).toList)) (g8 : (w.alloc (.cells (epc e) 119)).grownBy w8 (vs i).ownBlock) (e8 : v8.ownBlock = (vs i).ownBlock ∨ v8.ownBlock = some (w.alloc (.cells (epc e) 119)).heap.size) :
  ∃ a8 c8, v8 = .slice a8 ((L i).length + 1) c8 ∧ w8.cell? ⟨R, i, none⟩ = some (vs i) ∧ w8.frozen? ⟨R, i, none⟩ = false ∧ Hid (Wb (w8.setCell ⟨R, i, none⟩ v8) B wb R m vw vp (fun j => if j = i then v8 else vs j) P (lpt L i e) ∧ Kg.Touch (wbF wb R m vp vs) w (w8.setCell ⟨R, i, none⟩ v8) ∧ Kg.Newer w.heap.size (wbF wb R m vp vs) (wbF wb R m vp (fun j => if j = i then v8 else vs j))) := by
 obtain ⟨s1, s2, s3⟩ := Eo.snoc (h.l.l i hi) h8 g8 e8
 obtain ⟨a8, c8, e9⟩ := own_sl17 h8
 obtain ⟨h1, h2, h3⟩ := h.l.put hi s2 s1 s3
 obtain ⟨f1, f2, f3⟩ := h1.out
 have hlo := h.lo
 have hlt := Kg.heap_lt h.h
 refine ⟨a8, c8, e9, h2, h3, ⟨(f2.block _ hlt h.nR).trans h.h, h.p.keep f2 h.pl, f1, fun k hk hm => ?_, h.lo⟩, f2.mono (fun k hk => .inl (mem_wbF.2 (.inr (.inr hk)))), fun k hk => ?_⟩
 ·rcases f3 k hm with h4 | h4
  ·exact h.pl k hk h4
  ·have := (World.ownsRow.lt h.p k hk).2
   omega
 ·rcases mem_wbF.1 hk with h4 | h4 | h4
  ·exact .inl (mem_wbF.2 (.inl h4))
  ·exact .inl (mem_wbF.2 (.inr (.inl h4)))
  ·rcases f3 k h4 with h5 | h5
   ·exact .inl (mem_wbF.2 (.inr (.inr h5)))
   ·exact .inr h5
structure Wl (P : List Ep) (L : Nat → List Ep) : Prop where
 i : ∀ n e, e ∈ L n ↔ e ∈ P ∧ (e.1 = n ∨ e.2.1 = n)
 n : ∀ n, (L n).length ≤ 2 * P.length
theorem Wl.nil : Wl [] (fun _ => []) := ⟨fun n e => by simp, fun n => Nat.zero_le _⟩
theorem Wl.add (h : Wl P L) (e : Ep) : Wl (P ++ [e]) (lpt (lpt L e.1 e) e.2.1 e) := by
 refine ⟨fun n x => ?_, fun n => ?_⟩
 ·have hn := h.i n x
  show x ∈ (if n = e.2.1 then (if e.2.1 = e.1 then L e.1 ++ [e] else L e.2.1) ++ [e] else if n = e.1 then L e.1 ++ [e] else L n) ↔ _
  by_cases h1 : n = e.2.1
  ·rw [if_pos h1]
   by_cases h2 : e.2.1 = e.1
   ·rw [if_pos h2, ← h2, ← h1]
    simp only [List.mem_append, List.mem_singleton, hn]
    constructor
    ·rintro ((⟨a, b⟩ | rfl) | rfl)
     ·exact ⟨.inl a, b⟩
     ·exact ⟨.inr rfl, .inr h1.symm⟩
     ·exact ⟨.inr rfl, .inr h1.symm⟩
    ·rintro ⟨a | a, b⟩
     ·exact .inl (.inl ⟨a, b⟩)
     ·exact .inr a
   ·rw [if_neg h2, ← h1]
    simp only [List.mem_append, List.mem_singleton, hn]
    constructor
    ·rintro (⟨a, b⟩ | rfl)
     ·exact ⟨.inl a, b⟩
     ·exact ⟨.inr rfl, .inr h1.symm⟩
    ·rintro ⟨a | a, b⟩
     ·exact .inl ⟨a, b⟩
     ·exact .inr a
  ·rw [if_neg h1]
   by_cases h2 : n = e.1
   ·rw [if_pos h2, ← h2]
    simp only [List.mem_append, List.mem_singleton, hn]
    constructor
    ·rintro (⟨a, b⟩ | rfl)
     ·exact ⟨.inl a, b⟩
     ·exact ⟨.inr rfl, .inl h2.symm⟩
    ·rintro ⟨a | a, b⟩
     ·exact .inl ⟨a, b⟩
     ·exact .inr a
   ·rw [if_neg h2, hn]
    simp only [List.mem_append, List.mem_singleton]
    constructor
    ·rintro ⟨a, b⟩
     exact ⟨.inl a, b⟩
    ·rintro ⟨a | rfl, b⟩
     ·exact ⟨a, b⟩
     ·rcases b with b | b
      ·exact absurd b.symm h2
      ·exact absurd b.symm h1
 ·have hn := h.n n
  have h3 := h.n e.1
  have h4 := h.n e.2.1
  rw [List.length_append, List.length_singleton]
  show (if n = e.2.1 then (if e.2.1 = e.1 then L e.1 ++ [e] else L e.2.1) ++ [e] else if n = e.1 then L e.1 ++ [e] else L n).length ≤ _
  split
  ·split
   ·simp only [List.length_append, List.length_singleton]; omega
   ·simp only [List.length_append, List.length_singleton]; omega
  ·split
   ·simp only [List.length_append, List.length_singleton]; omega
   ·omega
end Go.Proofs.YtckgcpoheodbcaaGreatDoor
