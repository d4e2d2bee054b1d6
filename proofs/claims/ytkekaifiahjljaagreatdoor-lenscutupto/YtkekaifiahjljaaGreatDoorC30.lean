import Derived.Test.YtkekaifiahjljaaGreatDoorC29
import Derived.Test.YtkekaifiahjljaaGreatDoorC11
import Derived.Test.YtkekaifiahjljaaGreatDoorC15
import Derived.Shelf.SlIterI.Nil
import Derived.CallsIn
import Derived.RegionTactic
import Derived.ChangeAlike
import Derived.BigRegion
import Derived.Deep.RegionWith
import Derived.Lib.OwnBridge
set_option linter.unusedVariables false
set_option maxHeartbeats 8000000
set_option maxRecDepth 20000
namespace Go.Proofs.YtkekaifiahjljaaGreatDoor.Kg
open Go.RowKit Go.Shelf
attribute [local go_sem] Oper.semAt_some
set_option maxRecDepth 100000 in
theorem appendSeq_any (gf : Nat) (lb : Array Value) (xs : List Int) (Own : Nat → Prop) (w : World) (eg : ∀ args w, (callFunc gf args).run Tryz.prog w = .ok (.enter gf args) w)
    (hseq : SeqFull Tryz.prog gf lb (fun x : Int => #[Value.int .i64 x]) xs w.heap.size Own w) (hOwn : ∀ k, Own k → k < w.heap.size) (hlen : xs.length < 8796093022208) :
    Calls Tryz.prog 123 #[.slice none 0 0, .func (.func gf) #[] lb] w fun e W' => ∃ v, e = .returned v ∧ W'.ownsRow w.heap.size 3 1 v xs.length (ints xs) ∧ Below w.heap.size w W' := by
  refine (callsIn_wide (n := 9)).1 ?_
  obtain ⟨i0, hi, hz0, hz1, hz2⟩ := info_parts Tryz.infoInt
  refine callsIn_of_wp_marks Tryz.func123 rfl trivial ?_ rfl
  simp only [Tryz.ntmps123, List.size_toArray, List.length_cons, List.length_nil, Nat.reduceAdd, Nat.reduceSub, Array.replicate_succ, Array.replicate_zero, List.push_toArray, List.append_toArray, List.nil_append, List.cons_append]
  gi_wp2
  have bO := Boxed.new w 24 (.slice none 0 0)
  refine range_full (S0 := fun k => k < w.heap.size) (gf := gf) (lb := lb) (w0 := w) (n0 := w.heap.size) rfl eg hseq hOwn ((Below.refl _ w).alloc (Nat.le_refl _) _) (by simp) (fun _ => rfl)
    (Copying w 24 3 (Value.int .i64)) (copying_own w 24 3 (Value.int .i64) _ (by simp))
    ⟨_, bO, World.ownsRow_nil _ _ _ _, by simp, by simp [Value.ownBlock], fun k h => by simp at h ⊢; omega, (Below.refl _ w).alloc (Nat.le_refl _) _⟩
    (fun x => { tmps := #[.slice none 0 0, .func (.func gf) #[] lb, .pointer (some ⟨w.heap.size, 0, none⟩), undef, .slice none 0 0, .int .i64 x, .func (.func gf) #[] lb, .int .i64 x, undef, undef, undef, undef, undef], defers := [] }) ?assign ?body ?done
  case assign =>
    intro l x W K m hK
    gi_wp2
    exact hK
  case body =>
    rintro l S pre x W m ⟨v, hv, hrow, h1, h2, h3, hB⟩ hpre
    have hpl : pre.length < 8796093022208 := by have := hpre.length_le; simp at this; omega
    have hc := hv.cell
    gi_wp2_with (gi_at_builtin; refine wpListIn_append_own_at _ rfl _ _ 24 rfl w.heap.size 3 i0 (.int .i64 0) 1 8 Tryz.underlying24 hi hz0 hz1 hz2 rfl (by decide) _ _ _ rfl (hrow.alloc _) ⟨W.heap.size, 0, none⟩ 1 1 [.int .i64 x] rfl rfl (cell_one_new _ _ _) (by simp [Value.oneCell']) (by simp [maxLen]; omega) (by omega) (by have := hB.size; simp; omega) ?_; intro v' w1 hown' hgrow _ hat; obtain ⟨g', cap', rfl⟩ := ownsRow_succ hown'; obtain ⟨hv1, hv2, hr2, hk2, hb2⟩ := hv.appended (by decide) hrow hB.size (Nat.le_refl _) hown' hgrow; have hc1 := hv1.cell; have hf1 := hv1.frozen)
    exact copying_step (by decide) hv hrow h1 h2 h3 hB hown' hgrow hat
  case done =>
    rintro D S W hD ⟨v, hv, hrow, -, -, -, hB⟩ hK
    have hc := hv.cell
    gi_wp2
    refine ⟨by simp, .inl ⟨_, _, rfl, run_takeDeferred hK, ?_⟩⟩
    exact ⟨_, results_tmp rfl _ _ _, v, rfl, ownsRow_putObj hrow _ hK rfl, hB.trans (belowK_b (w := w) (Nat.le_refl _) W D _ _ (by simp at hD; omega) hK rfl rfl)⟩
theorem collect_any (gf : Nat) (lb : Array Value) (xs : List Int) (Own : Nat → Prop) (w : World) (eg : ∀ args w, (callFunc gf args).run Tryz.prog w = .ok (.enter gf args) w)
    (hseq : SeqFull Tryz.prog gf lb (fun x : Int => #[Value.int .i64 x]) xs w.heap.size Own w) (hOwn : ∀ k, Own k → k < w.heap.size) (hlen : xs.length < 8796093022208) :
    Calls Tryz.prog 76 #[.func (.func gf) #[] lb] w fun e W' => ∃ v, e = .returned v ∧ W'.ownsRow w.heap.size 3 1 v xs.length (ints xs) ∧ Below w.heap.size w W' := by
  have ha := appendSeq_any gf lb xs Own w eg hseq hOwn hlen
  clear hseq hOwn hlen
  go_enter Tryz.func76, Tryz.ntmps76
  go_wp2_with fail
  refine ha.mono ?_
  rintro e W1 ⟨v, rfl, ho, hb⟩
  clear ha
  obtain ⟨a, c, rfl⟩ := own_slice ho
  go_wp2
  go_ret
  exact ⟨_, rfl, ho, hb⟩
end Go.Proofs.YtkekaifiahjljaaGreatDoor.Kg
namespace Go.Proofs.YtkekaifiahjljaaGreatDoor
open Go.RowKit Go.Shelf Go.Lib Go.Sort Go.Proofs.YtkekaifiahjljaaGreatDoor.Lp
attribute [local go_sem] Oper.semAt_some
theorem valuesN_full (Bs n0 : Nat) (a : Option Addr) (cap : Nat) (w : World) (hBs : Bs < w.heap.size) (hc : w.cell? ⟨Bs, 0, none⟩ = some (.slice a 0 cap)) :
    Kg.SeqFull Tryz.prog 99 #[.pointer (some ⟨Bs, 0, none⟩)] (fun x : Int => #[Value.int .i64 x]) [] n0 (fun _ => False) w := fun n l J W S0 hW _ hJ hY h0 => by
  have hc' := (hW.cell (p := ⟨Bs, 0, none⟩) hBs).trans hc
  refine callsIn_of_wp Tryz.func99 rfl trivial ?_ rfl
  simp only [Tryz.ntmps99, List.size_toArray, List.length_cons, List.length_nil, Nat.reduceAdd, Nat.reduceSub, Array.replicate_succ, Array.replicate_zero, List.push_toArray, List.append_toArray, List.nil_append, List.cons_append]
  gi_wp2
  gi_loopw [7] (fun i wr => i = .int .i64 0 ∧ J S0 [] wr) (fun _ _ => 0)
  case atStart => exact ⟨rfl, h0⟩
  case round =>
    obtain ⟨rfl, hJs⟩ := hrel
    gi_wp2
    go_end0
    exact ⟨⟨_, rfl⟩, _, hJs⟩
theorem seq_of {n0 : Nat} {w : World} {v : Value} {zs : List Int} (hl : Lrd n0 w v .i64 zs) (hn : n0 ≤ w.heap.size) (hlen : zs.length ≤ 1000000000) :
    Kg.SeqFull Tryz.prog 99 #[.pointer (some ⟨w.heap.size, 0, none⟩)] (fun x : Int => #[Value.int .i64 x]) zs (w.alloc (.cells #[v] 24)).heap.size (fun _ => False) (w.alloc (.cells #[v] 24)) := by
  have hb : Below n0 w (w.alloc (.cells #[v] 24)) := Below.alloc (Below.refl _ _) hn _
  have hc : (w.alloc (.cells #[v] 24)).cell? ⟨w.heap.size, 0, none⟩ = some v := cell_of_row _ _ 0 _ _ _ (heap_alloc_new w (.cells #[v] 24 (0, 0)))
  obtain ⟨a, cap, rfl, -, h3⟩ := hl.below hb
  cases zs with
  | nil => exact valuesN_full _ _ _ _ _ (by simp) hc
  | cons z r =>
    refine Kg.valuesI_full _ _ _ _ _ (by simp) (Nat.le_refl _) (by omega) hc (.inr ?_)
    obtain ⟨q, off, rfl, hq, -⟩ := h3 0 z rfl
    refine ⟨q, off, cap, rfl, by simp; omega, fun j x hj => ?_⟩
    obtain ⟨q', off', e, -, h6⟩ := h3 j x hj
    simp only [Option.some.injEq, Addr.mk.injEq, and_true] at e
    obtain ⟨rfl, rfl⟩ := e
    exact h6
theorem sortedV_any (n0 : Nat) (v : Value) (zs : List Int) (w : World) (hl : Lrd n0 w v .i64 zs) (hn : n0 ≤ w.heap.size) (hlen : zs.length ≤ 1000000000) :
    Calls Tryz.prog 33 #[.func (.func 99) #[] #[.pointer (some ⟨w.heap.size, 0, none⟩)]] (w.alloc (.cells #[v] 24)) fun e w' => ∃ v', e = .returned v' ∧ Il w' (w.heap.size + 1) v' (zs.mergeSort (fun x y => decide (x ≤ y))) ∧ Below (w.heap.size + 1) (w.alloc (.cells #[v] 24)) w' := by
  have hcol := Kg.collect_any 99 #[.pointer (some ⟨w.heap.size, 0, none⟩)] zs (fun _ => False) (w.alloc (.cells #[v] 24)) (enters_of Tryz.func99 (by kernel_rfl) rfl) (seq_of hl hn hlen) (fun k h => h.elim) (by omega)
  have hs : (w.alloc (.cells #[v] 24)).heap.size = w.heap.size + 1 := by simp
  generalize w.alloc (.cells #[v] 24) = w1 at *
  rw [hs] at hcol
  have HS : Hid (w1.heap.size = w.heap.size + 1) := hs
  clear hl hs
  go_enter Tryz.func33, Tryz.ntmps33
  go_wp2_with fail
  refine hcol.mono ?_
  rintro e W1 ⟨vc, rfl, ho, hb⟩
  clear hcol
  rcases ho.2 with ⟨rfl, hz⟩ | ⟨gb, cap, cur, rfl, hbase, hgb, r1, r2, r3, r4⟩
  · obtain rfl : zs = [] := List.eq_nil_of_length_eq_zero hz
    have q := AnyM.slices_Sort_int_none Tryz.sortA none 0 W1
    have HO : Hid (W1.ownsRow (w.heap.size + 1) 3 1 (.slice none 0 0) 0 []) := World.ownsRow_nil _ _ _ _
    have HB : Hid (Below (w.heap.size + 1) w1 W1) := hb
    clear ho hb
    go_wp2_with fail
    refine q.mono ?_
    rintro e w' ⟨rfl, rfl⟩
    go_wp2
    go_ret
    refine ⟨_, rfl, ?_, HB.out⟩
    show World.ownsRow _ _ _ _ _ (List.mergeSort [] _).length (Kg.ints (List.mergeSort [] _))
    rw [List.mergeSort_nil]
    exact HO.out
  · have hH : Holds (Value.int .i64) W1 gb 0 zs.toArray := holds_of_block_i hgb (by simpa using r4)
    have q := AnyM.slices_Sort_int Tryz.sortA gb 0 cap zs W1 hH (Array.getElem?_eq_some_iff.1 hgb).1 (by omega)
    have HO : Hid (∀ n os, (grow (putRow (Value.int .i64) (Sort.ahead W1 n) gb 0 (zs.mergeSort fun x y => decide (x ≤ y)).toArray) os).ownsRow (w.heap.size + 1) 3 1 (.slice (some ⟨gb, 0, none⟩) zs.length cap) zs.length ((zs.mergeSort (fun x y => decide (x ≤ y))).map (Value.int .i64))) := fun n os => ownsRow_sorted_i (by simp) hbase hgb r1 r2 r3
    have HB : Hid (∀ n os, Below (w.heap.size + 1) w1 (grow (putRow (Value.int .i64) (Sort.ahead W1 n) gb 0 (zs.mergeSort fun x y => decide (x ≤ y)).toArray) os)) := fun n os => hb.grown (grownBy_sorted_i _) (by rw [← HS.out]; exact hb.size) (fun j hj => by cases hj; exact hbase)
    clear ho hb hH hbase hgb r1 r2 r3 r4
    go_wp2_with fail
    refine q.mono ?_
    rintro e w' ⟨rfl, nn, os, rfl⟩
    go_wp2
    go_ret
    refine ⟨_, rfl, ?_, HB.out nn os⟩
    show World.ownsRow _ _ _ _ _ (zs.mergeSort _).length _
    rw [List.length_mergeSort]
    exact HO.out nn os
end Go.Proofs.YtkekaifiahjljaaGreatDoor
namespace Go.Proofs.YtkekaifiahjljaaGreatDoor.Kg
open Go.RowKit
theorem held_some (b g cap n f : Nat) (w : World) (h0 : w.cell? ⟨b, 0, none⟩ = some (.slice (some ⟨g, 0, none⟩) n cap)) (h1 : w.cell? ⟨b, 1, none⟩ = some (.int .i64 f)) (hf : f ≤ n) (hn : n ≤ cap) (hc : cap ≤ maxLen) :
    Calls Tryz.prog 158 #[.pointer (some ⟨b, 0, none⟩)] w fun e w' => e = .returned (.slice (some (if cap = f then ⟨g, 0, none⟩ else ⟨g, f, none⟩)) (n - f) (cap - f)) ∧ ∃ nq, w' = w.drewN nq := by
  unfold maxLen at hc
  go_enter Tryz.func158, Tryz.ntmps158
  go_wp2
  go_quiet (fail)
  go_wp2
  all_goals
    go_ret
    exact ⟨by simp [*], nq, rfl⟩
theorem held_nil (b : Nat) (w : World) (h0 : w.cell? ⟨b, 0, none⟩ = some (.slice none 0 0)) (h1 : w.cell? ⟨b, 1, none⟩ = some (.int .i64 0)) :
    Calls Tryz.prog 158 #[.pointer (some ⟨b, 0, none⟩)] w fun e w' => e = .returned (.slice none 0 0) ∧ ∃ nq, w' = w.drewN nq := by
  go_enter Tryz.func158, Tryz.ntmps158
  go_wp2
  go_quiet (fail)
  go_wp2
  go_ret
  exact ⟨rfl, nq, rfl⟩
def Que (W : World) (base b : Nat) (most : Int) (N : Nat) (xs : List Int) (F : List Nat) : Prop :=
  ∃ (v : Value) (ts : List Int) (f : Nat), W.heap[b]? = some (.cells #[v, .int .i64 f, .int .i64 most] 127 (0, 0)) ∧ base ≤ b ∧ W.ownsRow base 3 1 v ts.length (ints ts) ∧
    f ≤ ts.length ∧ ts.drop f = xs ∧ ts.length ≤ N ∧ F = b :: v.ownBlock.toList
theorem Que.mem {W : World} {base b N : Nat} {most : Int} {xs : List Int} {F : List Nat} (h : Que W base b most N xs F) : ∀ k, k ∈ F → base ≤ k ∧ k < W.heap.size := by
  obtain ⟨v, ts, f, hh, hb, hr, _, _, _, rfl⟩ := h
  intro k hk
  rcases List.mem_cons.1 hk with rfl | hk
  · exact ⟨hb, heap_lt hh⟩
  · exact hr.lt k (by simpa using hk)
theorem Que.keep {W W' : World} {base b N : Nat} {most : Int} {xs : List Int} {F G : List Nat} (h : Que W base b most N xs F) (ht : Touch G W W') (ha : Apart F G) : Que W' base b most N xs F := by
  obtain ⟨v, ts, f, hh, hb, hr, h1, h2, h3, rfl⟩ := h
  refine ⟨v, ts, f, ?_, hb, ?_, h1, h2, h3, rfl⟩
  · rw [ht.block b (heap_lt hh) (ha b (by simp))]; exact hh
  · refine ⟨hr.1, ?_⟩
    rcases hr.2 with hn | ⟨g, cap, cur, rfl, hb', hg, rest⟩
    · exact .inl hn
    · refine .inr ⟨g, cap, cur, rfl, hb', ?_, rest⟩
      rw [ht.block g (heap_lt hg) (ha g (by simp [Value.ownBlock]))]; exact hg
theorem newqueue_any (m : Int) (hm : 0 ≤ m) (w : World) :
    Calls Tryz.prog 96 #[.int .i64 m] w fun e w' => e = .returned (.tuple #[.pointer (some ⟨w.heap.size, 0, none⟩), .int .i64 0]) ∧ w' = w.alloc (.cells #[.slice none 0 0, .int .i64 0, .int .i64 m] 127) := by
  have h1 : ¬ m < 0 := by omega
  go_enter Tryz.func96, Tryz.ntmps96
  go_wp2
  go_ret2
  exact ⟨rfl, rfl⟩
theorem newintqueue_any (m : Int) (hm : 0 ≤ m) (w : World) :
    Calls Tryz.prog 52 #[.int .i64 m] w fun e w' => e = .returned (.tuple #[.pointer (some ⟨w.heap.size, 0, none⟩), .int .i64 0]) ∧ Que w' w.heap.size w.heap.size m 0 [] [w.heap.size] ∧ Touch [] w w' ∧ w'.heap.size = w.heap.size + 1 := by
  go_enter Tryz.func52, Tryz.ntmps52
  go_wp2_with fail
  refine (newqueue_any m hm _).mono ?_
  rintro e w' ⟨rfl, rfl⟩
  go_wp2
  go_ret2
  exact ⟨rfl, ⟨.slice none 0 0, [], 0, heap_alloc_new w _, Nat.le_refl _, World.ownsRow_nil _ _ _ _, Nat.le_refl _, rfl, Nat.le_refl _, rfl⟩, Touch.alloc _ _ _, by simp⟩
theorem qlen_any (b f n base : Nat) (v : Value) (xs : List Value) (w : World) (h0 : w.cell? ⟨b, 0, none⟩ = some v) (h1 : w.cell? ⟨b, 1, none⟩ = some (.int .i64 f)) (hr : w.ownsRow base 3 1 v n xs) (hf : f ≤ n) :
    Calls Tryz.prog 97 #[.pointer (some ⟨b, 0, none⟩)] w fun e w' => e = .returned (.int .i64 ((n - f : Nat) : Int)) ∧ ∃ nq, w' = w.drewN nq := by
  rcases hr.2 with ⟨rfl, rfl⟩ | ⟨g, cap, cur, rfl, _, _, hn, hc, _⟩
  · obtain rfl : f = 0 := by omega
    clear hr
    go_enter Tryz.func97, Tryz.ntmps97
    go_wp2_with fail
    refine (held_nil b _ h0 h1).mono ?_
    rintro e w' ⟨rfl, nq, rfl⟩
    go_wp2
    go_ret
    exact ⟨rfl, nq, rfl⟩
  · clear hr
    have hh := held_some b g cap n f w h0 h1 hf hn hc
    generalize (if cap = f then (⟨g, 0, none⟩ : Addr) else ⟨g, f, none⟩) = a at hh
    go_enter Tryz.func97, Tryz.ntmps97
    go_wp2_with fail
    refine hh.mono ?_
    rintro e w' ⟨rfl, nq, rfl⟩
    go_wp2
    go_ret
    exact ⟨rfl, nq, rfl⟩
theorem put_core (b base f : Nat) (m x : Int) (v : Value) (ts : List Int) (w : World) (hh : w.heap[b]? = some (.cells #[v, .int .i64 f, .int .i64 m] 127 (0, 0))) (hr : w.ownsRow base 3 1 v ts.length (ints ts))
    (hbase : base ≤ w.heap.size) (hlen : ts.length < 8796093022208) (hf : f ≤ ts.length) (hroom : ¬ (0 < m ∧ m ≤ ((ts.length - f : Nat) : Int))) :
    Calls Tryz.prog 55 #[.pointer (some ⟨b, 0, none⟩), .int .i64 x] w fun e w' => e = .returned (.int .i64 0) ∧
      ∃ nq v' w1, w' = w1.setCell ⟨b, 0, none⟩ v' ∧ w1.ownsRow base 3 1 v' (ts.length + 1) (ints ts ++ [.int .i64 x]) ∧ ((w.drewN nq).alloc (.cells #[.int .i64 x] 3)).grownBy w1 v.ownBlock ∧ (v'.ownBlock = v.ownBlock ∨ v'.ownBlock = some (w.heap.size + 1)) := by
  have hc0 := heap_cell hh 0
  have hc1 := heap_cell hh 1
  have hc2 := heap_cell hh 2
  simp only [List.getElem?_toArray, List.getElem?_cons_zero, List.getElem?_cons_succ] at hc0 hc1 hc2
  have hf0 := heap_frozen hh 0
  have hbl := heap_lt hh
  have hne : some b ≠ v.ownBlock := row_ne hh hr
  clear hh
  have hd : decide (0 < m ∧ m ≤ ((ts.length - f : Nat) : Int)) = false := by simpa using hroom
  obtain ⟨i0, hi, hz0, hz1, hz2⟩ := info_parts Tryz.infoInt
  have hql := fun n => qlen_any b f ts.length base v (ints ts) (w.drewN n) hc0 hc1 hr hf
  generalize ((ts.length - f : Nat) : Int) = L at hql hd
  go_enter Tryz.func55, Tryz.ntmps55
  go_wp2
  go_quiet (first | (go_at_call 97; exact Calls.quiet_of (hql _)) | (go_at_call 100; exact Calls.quiet_of_same (full_any _ _ _)))
  rw [hd]
  have hr2 : (w.drewN nq).ownsRow base 3 1 v ts.length (ints ts) := hr
  go_wp2_with (at_builtin; refine wpList_append_own_at _ rfl _ _ 24 rfl base 3 i0 (.int .i64 0) 1 8 Tryz.underlying24 hi hz0 hz1 hz2 rfl (by decide) _ _ _ rfl (hr2.alloc _) ⟨w.heap.size, 0, none⟩ 1 1 [.int .i64 x] rfl rfl (cell_one_new _ _ _) (by simp [Value.oneCell']) (by simp [maxLen]; omega) (by omega) (by simp; omega) ?_)
  intro v' w1 hown' hgrow _ hat
  obtain ⟨g', cap', rfl⟩ := ownsRow_succ hown'
  have hcw : w1.cell? ⟨b, 0, none⟩ = some v := hgrow.cell (a := ⟨b, 0, none⟩) ((World.grownBy_alloc (w.drewN nq) _ none).cell (a := ⟨b, 0, none⟩) hc0 (by simp)) hne
  have hfw : w1.frozen? ⟨b, 0, none⟩ = false := by
    rw [World.frozen?_of_block (w := (w.drewN nq).alloc (.cells #[.int .i64 x] 3)) (hgrow.block b (by simp; omega) hne), World.frozen?_of_block (w := w.drewN nq) (Below.heap_alloc _ _ b hbl)]
    exact hf0
  go_wp2
  go_ret
  exact ⟨rfl, nq, _, w1, rfl, hown', hgrow, by simpa using hat⟩
theorem put_any (b base N : Nat) (m x : Int) (xs : List Int) (F : List Nat) (w : World) (hs : Que w base b m N xs F) (hbase : base ≤ w.heap.size) (hlen : N < 8796093022208) (hroom : ¬ (0 < m ∧ m ≤ xs.length)) :
    Calls Tryz.prog 55 #[.pointer (some ⟨b, 0, none⟩), .int .i64 x] w fun e w' => e = .returned (.int .i64 0) ∧
      ∃ F', Que w' base b m (N + 1) (xs ++ [x]) F' ∧ Touch F w w' ∧ Newer w.heap.size F F' := by
  obtain ⟨v, ts, f, hh, hb, hr, hf, rfl, hN, rfl⟩ := hs
  rw [List.length_drop] at hroom
  refine (put_core b base f m x v ts w hh hr hbase (by omega) hf hroom).mono ?_
  rintro e w' ⟨rfl, nq, v', w1, rfl, hown, hgrow, hat⟩
  have hne : some b ≠ v.ownBlock := row_ne hh hr
  have hh1 : w1.heap[b]? = some (.cells #[v, .int .i64 f, .int .i64 m] 127 (0, 0)) := by
    rw [hgrow.block b (by have := heap_lt hh; simp; omega) hne]; exact (Below.heap_alloc (w.drewN nq) _ b (heap_lt hh)).trans hh
  have hne' : some b ≠ v'.ownBlock := row_ne hh1 hown
  have ht : Touch (b :: v.ownBlock.toList) w w1 := ((Touch.drewN _ w nq).trans (Touch.alloc _ _ _)).trans (Touch.grown hgrow (fun k hk => by simp [hk]))
  refine ⟨rfl, b :: v'.ownBlock.toList, ⟨v', ts ++ [x], f, ?_, hb, ?_, by simp; omega, ?_, by simp; omega, rfl⟩, ht.trans (Touch.setCell _ _ _ (by simp)), ?_⟩
  · rw [heap_set hh1]; rfl
  · simpa using ownsRow_setOther hown (a := ⟨b, 0, none⟩) hne' v'
  · rw [List.drop_append_of_le_length hf]
  · intro k hk
    rcases List.mem_cons.1 hk with rfl | hk
    · exact .inl (by simp)
    · have hk' : v'.ownBlock = some k := by simpa using hk
      rcases hat with h1 | h1
      · exact .inl (by rw [h1] at hk'; simp [hk'])
      · rw [h1] at hk'; simp only [Option.some.injEq] at hk'; exact .inr (by omega)
theorem touch_putRow {enc : Int → Value} {w : World} {g q : Nat} {d : Array Int} : Touch [g] w (Sort.putRow enc (Sort.ahead w q) g 0 d) :=
  ⟨rfl, rfl, rfl, by simp [Sort.putRow, Sort.mapBlock, Sort.ahead], fun k _ hn => by
    have : g ≠ k := fun e => hn (by simp [e])
    simp [Sort.putRow, Sort.mapBlock, Sort.ahead, Array.getElem?_modify, this]⟩
theorem delq (g cap f base : Nat) (ts : List Int) (w : World) (hr : w.ownsRow base 3 1 (.slice (some ⟨g, 0, none⟩) ts.length cap) ts.length (ints ts)) (hf : f ≤ ts.length) :
    Calls Tryz.prog 159 #[.slice (some ⟨g, 0, none⟩) ts.length cap, .int .i64 0, .int .i64 f] w fun e w' => e = .returned (.slice (some ⟨g, 0, none⟩) (ts.length - f) cap) ∧
      w'.ownsRow base 3 1 (.slice (some ⟨g, 0, none⟩) (ts.length - f) cap) (ts.length - f) (ints (ts.drop f)) ∧ Touch [g] w w' := by
  obtain ⟨g', cap', hv, hb, hlt, hn, hm, _, hH⟩ := Lib.holds_of_ownsRow hr (by simp)
  simp only [Value.slice.injEq, Option.some.injEq, Addr.mk.injEq, true_and, and_true] at hv
  obtain ⟨rfl, rfl⟩ := hv
  have h := Tryz.slices_Delete_int g 0 cap 0 f ts w hH hn (by simpa [maxLen] using hm) (Nat.zero_le _) hf
  simp only [Nat.sub_zero, List.take_zero, List.nil_append] at h
  refine h.mono ?_
  rintro e w' ⟨rfl, q, rfl⟩
  refine ⟨rfl, ?_, touch_putRow⟩
  have h2 := Lib.ownsRow_putRow (q := q) (k := ts.length - f) (ys := ts.drop f ++ List.replicate f 0) hr (by simp; omega) (by omega)
  have h3 : (ts.drop f ++ List.replicate f 0).take (ts.length - f) = ts.drop f := by
    rw [← List.length_drop]; exact List.take_left
  rw [h3] at h2
  exact h2
theorem close_no (b f n base : Nat) (v : Value) (xs : List Value) (w : World) (h0 : w.cell? ⟨b, 0, none⟩ = some v) (h1 : w.cell? ⟨b, 1, none⟩ = some (.int .i64 f)) (hr : w.ownsRow base 3 1 v n xs) (hf : f ≤ n) (hno : f < n - f) :
    Calls Tryz.prog 98 #[.pointer (some ⟨b, 0, none⟩)] w fun e w' => e = .returned (.tuple #[]) ∧ ∃ nq, w' = w.drewN nq := by
  have hql := fun k => qlen_any b f n base v xs (w.drewN k) h0 h1 hr hf
  have hno' : ¬ (((n - f : Nat) : Int) ≤ (f : Int)) := by omega
  generalize ((n - f : Nat) : Int) = L at hql hno'
  clear hno
  go_enter Tryz.func98, Tryz.ntmps98
  go_wp2
  go_quiet ((go_at_call 97; exact Calls.quiet_of (hql _)))
  go_wp2
  go_end0
  exact ⟨rfl, nq, rfl⟩
theorem close_yes (b f g cap base : Nat) (m : Int) (ts : List Int) (w : World) (hh : w.heap[b]? = some (.cells #[.slice (some ⟨g, 0, none⟩) ts.length cap, .int .i64 f, .int .i64 m] 127 (0, 0)))
    (hr : w.ownsRow base 3 1 (.slice (some ⟨g, 0, none⟩) ts.length cap) ts.length (ints ts)) (hf : f ≤ ts.length) (hyes : ts.length - f ≤ f) :
    Calls Tryz.prog 98 #[.pointer (some ⟨b, 0, none⟩)] w fun e w' => e = .returned (.tuple #[]) ∧
      ∃ w1, w' = (w1.setCell ⟨b, 0, none⟩ (.slice (some ⟨g, 0, none⟩) (ts.length - f) cap)).setCell ⟨b, 1, none⟩ (.int .i64 0) ∧
        w1.ownsRow base 3 1 (.slice (some ⟨g, 0, none⟩) (ts.length - f) cap) (ts.length - f) (ints (ts.drop f)) ∧ Touch [g] w w1 := by
  have hne : b ≠ g := fun e => absurd (by simp [Value.ownBlock, e]) (row_ne hh hr)
  have hc0 := heap_cell hh 0
  have hc1 := heap_cell hh 1
  simp only [List.getElem?_toArray, List.getElem?_cons_zero, List.getElem?_cons_succ] at hc0 hc1
  have hbl := heap_lt hh
  have hq1 : ∀ w1, Touch [g] w w1 → w1.heap[b]? = some (.cells #[.slice (some ⟨g, 0, none⟩) ts.length cap, .int .i64 f, .int .i64 m] 127 (0, 0)) := fun w1 ht =>
    (ht.block b hbl (by simp [hne])).trans hh
  clear hh
  have hql := fun k => qlen_any b f ts.length base _ _ (w.drewN k) hc0 hc1 hr hf
  have hyes' : ((ts.length - f : Nat) : Int) ≤ (f : Int) := by omega
  generalize ((ts.length - f : Nat) : Int) = L at hql hyes'
  clear hyes
  go_enter Tryz.func98, Tryz.ntmps98
  go_wp2
  go_quiet ((go_at_call 97; exact Calls.quiet_of (hql _)))
  go_wp2
  have hr2 : (w.drewN (nq + 1)).ownsRow base 3 1 (.slice (some ⟨g, 0, none⟩) ts.length cap) ts.length (ints ts) := hr
  have hd := delq g cap f base ts _ hr2 hf
  go_region_with (go_at_call 159; refine hd.mono ?_; rintro e w1 ⟨rfl, hown, ht⟩; have hh1 := hq1 w1 ((Touch.drewN _ w (nq + 1)).trans ht); have c0 := heap_cell hh1 0; have z0 := heap_frozen hh1 0; have c1 := heap_cell hh1 1; have z1 := heap_frozen hh1 1; clear hh1; simp only [List.getElem?_toArray, List.getElem?_cons_zero, List.getElem?_cons_succ] at c0 c1)
  all_goals
    go_wp2
    go_end0
    exact ⟨rfl, _, rfl, hown, (Touch.drewN _ w (nq + 1)).trans ht⟩
theorem take_none (b base N : Nat) (m : Int) (F : List Nat) (w : World) (hs : Que w base b m N [] F) :
    Calls Tryz.prog 53 #[.pointer (some ⟨b, 0, none⟩)] w fun e w' => e = .returned (.tuple #[.int .i64 0, .bool false]) ∧ ∃ nq, w' = w.drewN nq := by
  obtain ⟨v, ts, f, hh, hb, hr, hf, hd, hN, rfl⟩ := hs
  have hl : ts.length - f = 0 := by rw [← List.length_drop, hd]; rfl
  have hc0 := heap_cell hh 0
  have hc1 := heap_cell hh 1
  simp only [List.getElem?_toArray, List.getElem?_cons_zero, List.getElem?_cons_succ] at hc0 hc1
  have hql := qlen_any b f ts.length base v (ints ts) w hc0 hc1 hr hf
  rw [hl] at hql
  clear hh hl hd
  go_enter Tryz.func53, Tryz.ntmps53
  go_wp2_with fail
  refine hql.mono ?_
  rintro e w' ⟨rfl, nq, rfl⟩
  go_wp2
  go_ret2
  exact ⟨rfl, nq, rfl⟩
theorem close_any (b f base N : Nat) (m : Int) (v : Value) (ts : List Int) (w : World) (hh : w.heap[b]? = some (.cells #[v, .int .i64 f, .int .i64 m] 127 (0, 0))) (hb : base ≤ b)
    (hr : w.ownsRow base 3 1 v ts.length (ints ts)) (hf : f ≤ ts.length) (hv : v ≠ .slice none 0 0) (hN : ts.length ≤ N) :
    Calls Tryz.prog 98 #[.pointer (some ⟨b, 0, none⟩)] w fun e w' => e = .returned (.tuple #[]) ∧ Que w' base b m N (ts.drop f) (b :: v.ownBlock.toList) ∧ Touch (b :: v.ownBlock.toList) w w' := by
  rcases hr.2 with ⟨h1, _⟩ | ⟨g, cap, cur, rfl, _⟩
  · exact absurd h1 hv
  by_cases hyes : ts.length - f ≤ f
  · refine (close_yes b f g cap base m ts w hh hr hf hyes).mono ?_
    rintro e w' ⟨rfl, w1, rfl, hown, ht⟩
    have hne : b ≠ g := fun e => absurd (by simp [Value.ownBlock, e]) (row_ne hh hr)
    have hh1 : w1.heap[b]? = some (.cells #[.slice (some ⟨g, 0, none⟩) ts.length cap, .int .i64 f, .int .i64 m] 127 (0, 0)) := (ht.block b (heap_lt hh) (by simp [hne])).trans hh
    refine ⟨rfl, ⟨.slice (some ⟨g, 0, none⟩) (ts.length - f) cap, ts.drop f, 0, ?_, hb, ?_, Nat.zero_le _, rfl, by simp; omega, rfl⟩, ?_⟩
    · rw [heap_set (heap_set hh1 0 _) 1 _]; rfl
    · rw [List.length_drop]
      exact ownsRow_setOther (ownsRow_setOther hown (by simpa [Value.ownBlock] using hne) _) (by simpa [Value.ownBlock] using hne) _
    · exact ((ht.mono (fun k hk => .inl (by simpa [Value.ownBlock] using Or.inr (by simpa using hk)))).trans (Touch.setCell _ _ _ (by simp))).trans (Touch.setCell _ _ _ (by simp))
  · have hc0 := heap_cell hh 0
    have hc1 := heap_cell hh 1
    simp only [List.getElem?_toArray, List.getElem?_cons_zero, List.getElem?_cons_succ] at hc0 hc1
    refine (close_no b f ts.length base _ _ w hc0 hc1 hr hf (by omega)).mono ?_
    rintro e w' ⟨rfl, nq, rfl⟩
    exact ⟨rfl, ⟨_, ts, f, hh, hb, hr, hf, rfl, hN, rfl⟩, Touch.drewN _ _ _⟩
theorem take_core (R : World → Prop) (b base f g cap : Nat) (m x : Int) (ts : List Int) (w : World) (hh : w.heap[b]? = some (.cells #[.slice (some ⟨g, 0, none⟩) ts.length cap, .int .i64 f, .int .i64 m] 127 (0, 0)))
    (hr : w.ownsRow base 3 1 (.slice (some ⟨g, 0, none⟩) ts.length cap) ts.length (ints ts)) (hf : f < ts.length) (hx : ts[f]? = some x) (hlen : ts.length < 8796093022208)
    (hcl : ∀ q, Calls Tryz.prog 98 #[.pointer (some ⟨b, 0, none⟩)] (((w.drewN q).setCell ⟨g, f, none⟩ (.int .i64 0)).setCell ⟨b, 1, none⟩ (.int .i64 ((f : Int) + 1))) fun e w' => e = .returned (.tuple #[]) ∧ R w') :
    Calls Tryz.prog 53 #[.pointer (some ⟨b, 0, none⟩)] w fun e w' => e = .returned (.tuple #[.int .i64 x, .bool true]) ∧ R w' := by
  have hne : b ≠ g := fun e => absurd (by simp [Value.ownBlock, e]) (row_ne hh hr)
  have hc0 := heap_cell hh 0
  have hc1 := heap_cell hh 1
  have hf0 := heap_frozen hh 0
  have hf1 := heap_frozen hh 1
  simp only [List.getElem?_toArray, List.getElem?_cons_zero, List.getElem?_cons_succ] at hc0 hc1
  have hcx : w.cell? ⟨g, f, none⟩ = some (.int .i64 x) := by
    rw [hr.cellAt _ (by omega)]; simp [hx]
  have hfx := hr.frozenAt f
  have hql := qlen_any b f ts.length base _ _ w hc0 hc1 hr (Nat.le_of_lt hf)
  have hl0 : ((((ts.length - f : Nat) : Int)) == 0) = false := by simp; omega
  generalize ((ts.length - f : Nat) : Int) = L at hql hl0
  have hfi : (f : Int) < (ts.length : Int) := by omega
  clear hh hx
  have Hcl : Hid (∀ q, Calls Tryz.prog 98 #[.pointer (some ⟨b, 0, none⟩)] (((w.drewN q).setCell ⟨g, f, none⟩ (.int .i64 0)).setCell ⟨b, 1, none⟩ (.int .i64 ((f : Int) + 1))) fun e w' => e = .returned (.tuple #[]) ∧ R w') := hcl
  clear hcl
  go_enter Tryz.func53, Tryz.ntmps53
  go_wp2_with fail
  refine hql.mono ?_
  rintro e w' ⟨rfl, nq, rfl⟩
  go_wp2_with fail
  clear hql
  go_quiet (fail)
  go_wp2_with fail
  have hcb : (w.setCell ⟨g, f, none⟩ (.int .i64 0)).cell? ⟨b, 1, none⟩ = some (.int .i64 f) := by
    rw [World.cell?_of_block (w := w) (Below.heap_setCell _ _ _ _ hne)]; exact hc1
  have hfb : (w.setCell ⟨g, f, none⟩ (.int .i64 0)).frozen? ⟨b, 1, none⟩ = false := by
    rw [World.frozen?_of_block (w := w) (Below.heap_setCell _ _ _ _ hne)]; exact hf1
  go_region
  go_wp2_with fail
  refine (Hcl.out _).mono ?_
  rintro e w' ⟨rfl, hR⟩
  go_wp2
  go_ret2
  exact ⟨rfl, hR⟩
theorem take_any (b base N : Nat) (m x : Int) (xs : List Int) (F : List Nat) (w : World) (hs : Que w base b m N (x :: xs) F) (hlen : N < 8796093022208) :
    Calls Tryz.prog 53 #[.pointer (some ⟨b, 0, none⟩)] w fun e w' => e = .returned (.tuple #[.int .i64 x, .bool true]) ∧ Que w' base b m N xs F ∧ Touch F w w' := by
  obtain ⟨v, ts, f, hh, hb, hr, hf, hd, hN, rfl⟩ := hs
  have hfl : f < ts.length := by
    have := congrArg List.length hd
    simp only [List.length_drop, List.length_cons] at this
    omega
  have hx : ts[f]? = some x := by
    have := congrArg (fun l => l[0]?) hd
    simpa using this
  have hxs : ts.drop (f + 1) = xs := by
    have := congrArg List.tail hd
    simpa using this
  rcases hr.2 with ⟨_, h1⟩ | ⟨g, cap, cur, rfl, _, hg, hn, hm, hcs, htk⟩
  · omega
  have hne : b ≠ g := fun e => absurd (by simp [Value.ownBlock, e]) (row_ne hh hr)
  refine take_core (fun w' => Que w' base b m N xs [b, g] ∧ Touch [b, g] w w') b base f g cap m x ts w hh hr hfl hx (by omega) ?_
  intro q
  have hh0 : (w.drewN q).heap[b]? = some (.cells #[.slice (some ⟨g, 0, none⟩) ts.length cap, .int .i64 f, .int .i64 m] 127 (0, 0)) := hh
  have hr0 : (w.drewN q).ownsRow base 3 1 (.slice (some ⟨g, 0, none⟩) ts.length cap) ts.length (ints ts) := hr
  generalize hw0 : w.drewN q = w0 at *
  have ht0 : Touch [b, g] w w0 := by rw [← hw0]; exact Touch.drewN _ _ _
  have hh1 : (w0.setCell ⟨g, f, none⟩ (.int .i64 0)).heap[b]? = some (.cells #[.slice (some ⟨g, 0, none⟩) ts.length cap, .int .i64 f, .int .i64 m] 127 (0, 0)) := by
    rw [Below.heap_setCell _ _ _ _ hne]; exact hh0
  have hr1 := ownsRow_setOther (hr0.stored f (.int .i64 0)).1 (a := ⟨b, 1, none⟩) (by simpa [Value.ownBlock] using hne) (.int .i64 ((f : Int) + 1))
  have hh2 := heap_set hh1 1 (.int .i64 ((f : Int) + 1))
  have e1 : (ints ts).set f (.int .i64 0) = ints (ts.set f 0) := by simp [ints, List.map_set]
  rw [e1] at hr1
  have hc := close_any b (f + 1) base N m (.slice (some ⟨g, 0, none⟩) ts.length cap) (ts.set f 0) _ hh2 hb (by simpa using hr1) (by simp; omega) (by simp) (by simpa using hN)
  refine hc.mono ?_
  rintro e w' ⟨rfl, hq, ht⟩
  have e2 : (ts.set f 0).drop (f + 1) = xs := by rw [List.drop_set_of_lt (by omega)]; exact hxs
  rw [e2] at hq
  exact ⟨rfl, hq, ((ht0.trans (Touch.setCell _ _ _ (by simp))).trans (Touch.setCell _ _ _ (by simp))).trans ht⟩
end Go.Proofs.YtkekaifiahjljaaGreatDoor.Kg
