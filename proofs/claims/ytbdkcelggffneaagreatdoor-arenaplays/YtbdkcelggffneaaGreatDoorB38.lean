/-
  The two arenas side by side: a walk is taken and kept; one that is kept is gone through.
-/
import Derived.Test.YtbdkcelggffneaaGreatDoorB36
set_option linter.unusedVariables false
set_option maxRecDepth 20000
namespace Go.Proofs.YtbdkcelggffneaaGreatDoor
open Go.RowKit Go.Shelf

theorem Tryz.infoWalk : (Tryz.prog.info? 78).map (fun i => (i.zero, i.size, i.bytes)) = some (some .nilFunc, 1, 8) := by kernel_rfl

theorem Touch.grown {F : List Nat} {w w' : World} {row : Option Nat} (hg : w.grownBy w' row) (hr : ∀ k, row = some k → k ∈ F) : Touch F w w' :=
  ⟨hg.os, hg.tape, hg.output, hg.size, fun k hk hn => hg.block k hk (fun e => hn (hr k e.symm))⟩

theorem ownsRow_setOther {w : World} {base : Nat} {e : TypeId} {size : Nat} {v : Value} {n : Nat} {xs : List Value} (h : w.ownsRow base e size v n xs) {a : Addr} (ha : some a.block ≠ v.ownBlock) (u : Value) : (w.setCell a u).ownsRow base e size v n xs := by
  obtain ⟨h1, h2⟩ := h
  refine ⟨h1, ?_⟩
  rcases h2 with h2 | ⟨g, cap, cur, rfl, hg, hh, r⟩
  · exact Or.inl h2
  · exact Or.inr ⟨g, cap, cur, rfl, hg, by rw [Below.heap_setCell _ _ _ _ (fun e => ha (by rw [← e]; rfl))]; exact hh, r⟩

section
variable (p a h r : Nat) (g : Nat → Nat) (c : Cfg) (x : Tps) (sw : Bool) (ws : Nat → Int)

set_option maxHeartbeats 16000000 in
theorem step20_core (o : Opg) (ho : o.k = 20) (base : Nat) (ks : List Wlk) (v2 v3 : Value) (hl : ks.length < 64) (w : World) (hB : Bo w p a h r g c x sw ws) (hK : Kept w p a r base ks v2 v3) (hbase : base ≤ w.heap.size) :
    Calls Tryz.prog 7 #[.pointer (some ⟨p, 0, none⟩), o.val] w fun e w' => e = .returned (.bool true) ∧ ∃ ca v2' v3', w.heap.size ≤ ca ∧ w'.cell? ⟨ca, 0, none⟩ = some (.pointer (some ⟨a, 0, none⟩)) ∧ w'.cell? ⟨ca + 1, 0, none⟩ = some (.int .i64 o.sp) ∧
      w'.heap[p]? = some (.cells #[.pointer (some ⟨a, 0, none⟩), .pointer (some ⟨r, 0, none⟩), v2', v3'] 39 (0, 0)) ∧ w'.ownsRow base 78 1 v2' (ks.length + 1) (ks.map Wlk.v ++ [itv ca (ca + 1)]) ∧ w'.ownsRow base 3 1 v3' (ks.length + 1) (ks.map (fun k => Value.int .i64 k.s) ++ [.int .i64 o.sp]) ∧
      Touch (p :: (v2.ownBlock.toList ++ v3.ownBlock.toList)) w w' ∧ (∀ q, v2'.ownBlock = some q → v2.ownBlock = some q ∨ ca + 1 < q) ∧ (∀ q, v3'.ownBlock = some q → v3.ownBlock = some q ∨ ca + 1 < q) ∧ ca + 1 < w'.heap.size := by
  have l0 : Hid (Below w.heap.size w (w.alloc (.cells o.cells 33))) := Below.alloc (Below.refl _ _) (Nat.le_refl _) _
  have hO := Ob.new w o
  have hK0 := hK.below l0.out
  obtain ⟨i1, hi1, hz10, hz11, hz12⟩ := info_parts Tryz.infoWalk
  obtain ⟨i0, hi0, hz0, hz1, hz2⟩ := info_parts Tryz.infoInt
  have HB : Hid (Bo (w.alloc (.cells o.cells 33)) p a h r g c x sw ws) := hB.below l0.out
  have HK : Hid (Kept (w.alloc (.cells o.cells 33)) p a r base ks v2 v3) := hK0
  obtain ⟨s2, cap2, hv2⟩ := own_sl hK.r2
  have hli : (ks.length : Int) < 64 := by omega
  have HALL : Hid (∀ k, k ∈ p :: (v2.ownBlock.toList ++ v3.ownBlock.toList) → k ≤ w.heap.size) := fun k hk => by
    simp only [List.mem_cons, List.mem_append, Option.mem_toList] at hk
    rcases hk with rfl | hk | hk
    · exact Nat.le_of_lt (Array.getElem?_eq_some_iff.1 hK.pb).1
    · exact Nat.le_of_lt (row_lt hK.r2 k hk)
    · exact Nat.le_of_lt (row_lt hK.r3 k hk)
  clear hB hK hK0
  go_enter Tryz.func7, Tryz.ntmps7
  go_upto_region 1 with fail
  have k0 : (w.alloc (.cells o.cells 33)).cell? ⟨w.heap.size, 0, none⟩ = some (.int .i64 20) := by rw [hO.cell 0, ← ho]; rfl
  have k2 : (w.alloc (.cells o.cells 33)).cell? ⟨w.heap.size, 2, none⟩ = some (.int .i64 o.sp) := hO.cell 2
  have hzv : w.heap.size < (w.alloc (.cells o.cells 33)).heap.size := by simp
  generalize w.alloc (.cells o.cells 33) = v at *
  have c0 := HB.out.c0
  have c2 := HK.out.c2
  rw [hv2] at c2
  have HO : Hid (Ob v w.heap.size o) := hO
  clear hO
  go_upto_region 38 with fail
  go_cut [27] from 308 to 314 (fun v27 wq => ∃ ca, v27 = itv ca (ca + 1) ∧ v.heap.size ≤ ca ∧ wq.cell? ⟨ca, 0, none⟩ = some (.pointer (some ⟨a, 0, none⟩)) ∧ wq.cell? ⟨ca + 1, 0, none⟩ = some (.int .i64 o.sp) ∧ Below v.heap.size v wq)
  case first =>
    go_region_with (go_at_call 41; refine (objects_any a o.sp _).mono ?_; rintro e w1 ⟨rfl, rfl⟩)
    all_goals (go_wp2_with fail; go_meet; refine ⟨v.heap.size, rfl, Nat.le_refl _, ?_, ?_, ?_⟩)
    all_goals first
      | exact Below.alloc (Below.alloc (below_drewN (Below.refl _ _) 1) (Nat.le_refl _) _) (by simp) _
      | exact cell_of_row _ _ 0 _ _ _ ((Below.heap_alloc _ _ _ (by simp)).trans (heap_alloc_new v.drew (.cells #[.pointer (some ⟨a, 0, none⟩)] 34 (0, 0))))
      | (rw [show v.heap.size + 1 = (v.alloc (.cells #[.pointer (some ⟨a, 0, none⟩)] 34)).heap.size by simp]; exact cell_of_row _ _ 0 _ _ _ (heap_alloc_new (v.alloc (.cells #[.pointer (some ⟨a, 0, none⟩)] 34)) (.cells #[.int .i64 o.sp] 3 (0, 0))))
  case rest =>
  obtain ⟨ca, rfl, hca, d1, d2, bb⟩ := hcut
  have hnil := it_nil ca (ca + 1)
  have hK1 := HK.out.below bb
  have hO1 := HO.out.below bb
  have LB : Hid (Below w.heap.size w wc) := l0.out.trans (bb.mono l0.out.size)
  have HD : Hid (wc.cell? ⟨ca, 0, none⟩ = some (.pointer (some ⟨a, 0, none⟩)) ∧ wc.cell? ⟨ca + 1, 0, none⟩ = some (.int .i64 o.sp) ∧ w.heap.size < ca) := ⟨d1, d2, by omega⟩
  obtain ⟨w1, hw1⟩ : ∃ w1, w1 = wc := ⟨_, rfl⟩
  rw [← hw1] at hK1 hO1 LB HD ⊢
  clear hw1 d1 d2 bb HB HK HO l0 k0 k2 c0 c2
  clear wc
  have hpl : p < w1.heap.size := (Array.getElem?_eq_some_iff.1 hK1.pb).1
  have hr2 := hK1.r2
  rw [hv2] at hr2
  have hnp2 : some p ≠ (Value.slice s2 ks.length cap2).ownBlock := row_ne hK1.pb hr2 (by decide)
  have hnp3 : some p ≠ v3.ownBlock := row_ne hK1.pb hK1.r3 (by decide)
  have h23 : ∀ q, (Value.slice s2 ks.length cap2).ownBlock = some q → v3.ownBlock ≠ some q := fun q hq => rows_ne hr2 hK1.r3 (by decide) q hq
  have c2 : w1.cell? ⟨p, 2, none⟩ = some (.slice s2 ks.length cap2) := by rw [← hv2]; exact hK1.c2
  have hz1w : w.heap.size ≤ w1.heap.size := LB.out.size
  have hcal : ca + 1 < w1.heap.size := World.block_lt_of_cell? _ _ HD.out.2.1
  go_upto_region 41 with fail
  go_wp2_with (at_builtin; refine wpList_append_own_at _ rfl _ _ 36 rfl base 78 i1 .nilFunc 1 8 Tryz.underlying36 hi1 hz10 hz11 hz12 rfl (by decide) _ _ _ rfl (hr2.alloc _) ⟨w1.heap.size, 0, none⟩ 1 1 [itv ca (ca + 1)] rfl rfl (cell_one_new _ _ _) (by simp [Value.oneCell']) (by simp [maxLen]; omega) (by omega) (by simp; omega) ?_)
  intro v2' w3 hown hgrow _ hat
  have hown2 := hown
  obtain ⟨gk, capk, rfl⟩ := ownsRow_succ hown
  have hp3 : w3.heap[p]? = some (.cells #[.pointer (some ⟨a, 0, none⟩), .pointer (some ⟨r, 0, none⟩), v2, v3] 39 (0, 0)) := by
    rw [hgrow.block p (by simp; omega) hnp2]; exact (Below.heap_alloc w1 _ p hpl).trans hK1.pb
  have t3 : Touch ((Value.slice s2 ks.length cap2).ownBlock.toList) w1 w3 := (Touch.alloc _ _ _).trans (Touch.grown hgrow (fun k hk => by simp [hk]))
  have hnpk : some p ≠ (Value.slice (some ⟨gk, 0, none⟩) (ks.length + 1) capk).ownBlock := row_ne hp3 hown (by decide)
  have f2 : w3.cell? ⟨p, 2, none⟩ = some v2 := cell_of_row _ _ 2 _ _ _ hp3
  have z2 : w3.frozen? ⟨p, 2, none⟩ = false := by unfold World.frozen?; simp only [hp3]; simp
  have hat2 : ∀ q, (Value.slice (some ⟨gk, 0, none⟩) (ks.length + 1) capk).ownBlock = some q → v2.ownBlock = some q ∨ ca + 1 < q := fun q hq => by
    rcases hat with e | e
    · rw [hv2]; exact .inl (by rw [← e]; exact hq)
    · rw [e] at hq; simp at hq; exact .inr (by omega)
  have hp4 := set_at hp3 2 (.slice (some ⟨gk, 0, none⟩) (ks.length + 1) capk)
  have hr24 := ownsRow_setOther hown2 (a := ⟨p, 2, none⟩) hnpk (.slice (some ⟨gk, 0, none⟩) (ks.length + 1) capk)
  have hr34 := ownsRow_setOther (row_keep hK1.r3 (fun q hq => t3.block q (row_lt hK1.r3 q hq) (fun hm => h23 q (by simpa using hm) hq))) (a := ⟨p, 2, none⟩) hnp3 (.slice (some ⟨gk, 0, none⟩) (ks.length + 1) capk)
  have t4 : Touch (p :: v2.ownBlock.toList) w1 (w3.setCell ⟨p, 2, none⟩ (.slice (some ⟨gk, 0, none⟩) (ks.length + 1) capk)) := (t3.mono (fun k hk => .inl (by rw [hv2]; simp at hk ⊢; exact .inr hk))).trans (Touch.setCell _ _ _ (by simp))
  have hob : w.heap.size ∉ p :: v2.ownBlock.toList := by
    have h1 : p ≠ w.heap.size := fun e => by have := hO1.is; rw [← e] at this; rw [hK1.pb] at this; simp at this
    have h2 : v2.ownBlock ≠ some w.heap.size := fun e => (row_ne (b := w.heap.size) hO1.is hK1.r2 (by decide)) e.symm
    simp [Ne.symm h1, h2]
  have hO4 : Ob (w3.setCell ⟨p, 2, none⟩ (.slice (some ⟨gk, 0, none⟩) (ks.length + 1) capk)) w.heap.size o := ⟨(t4.block _ hO1.lt hob).trans hO1.is⟩
  have HS : Hid (w1.heap.size ≤ w3.heap.size) := t3.size
  clear hgrow hat hown hown2 t3 hr2 c2 hnpk h23 hnp2
  go_upto_region 42 with fail
  have hp4' : (w3.setCell ⟨p, 2, none⟩ (.slice (some ⟨gk, 0, none⟩) (ks.length + 1) capk)).heap[p]? = some (.cells #[.pointer (some ⟨a, 0, none⟩), .pointer (some ⟨r, 0, none⟩), .slice (some ⟨gk, 0, none⟩) (ks.length + 1) capk, v3] 39 (0, 0)) := hp4
  clear hp4 f2 z2 hp3
  generalize w3.setCell ⟨p, 2, none⟩ (.slice (some ⟨gk, 0, none⟩) (ks.length + 1) capk) = w5 at *
  obtain ⟨s3, cap3, hv3⟩ := own_sl hK1.r3
  have e3 : w5.cell? ⟨p, 3, none⟩ = some (.slice s3 ks.length cap3) := by rw [← hv3]; exact cell_of_row _ _ 3 _ _ _ hp4'
  have o2 : w5.cell? ⟨w.heap.size, 2, none⟩ = some (.int .i64 o.sp) := hO4.cell 2
  have e3a : (w5.alloc (.cells #[.int .i64 o.sp] 3)).cell? ⟨p, 3, none⟩ = some (.slice s3 ks.length cap3) := Lib.cell?_alloc_some _ e3
  have o2a : (w5.alloc (.cells #[.int .i64 o.sp] 3)).cell? ⟨w.heap.size, 2, none⟩ = some (.int .i64 o.sp) := Lib.cell?_alloc_some _ o2
  rw [hv3] at hr34 hnp3
  have Hr34 : Hid (w5.ownsRow base 3 1 (.slice s3 ks.length cap3) ks.length (ks.map fun k => Value.int .i64 k.s)) := hr34
  have hp5l : p < w5.heap.size := (Array.getElem?_eq_some_iff.1 hp4').1
  have hz5 : w1.heap.size ≤ w5.heap.size := t4.size
  have HP : Hid (w5.heap[p]? = some (.cells #[.pointer (some ⟨a, 0, none⟩), .pointer (some ⟨r, 0, none⟩), .slice (some ⟨gk, 0, none⟩) (ks.length + 1) capk, v3] 39 (0, 0))) := hp4'
  have HT4 : Hid (Touch (p :: v2.ownBlock.toList) w1 w5 ∧ w5.ownsRow base 78 1 (.slice (some ⟨gk, 0, none⟩) (ks.length + 1) capk) (ks.length + 1) (ks.map Wlk.v ++ [itv ca (ca + 1)])) := ⟨t4, hr24⟩
  clear hr34 hp4' t4 hr24 hO4 hob
  go_region_law (refine step_append_own_at rfl (.tmp 331) (.tmp 334) 37 rfl base 3 i0 (.int .i64 0) 1 8 Tryz.underlying37 hi0 hz0 hz1 hz2 rfl (by decide) (.slice s3 ks.length cap3) ks.length (ks.map fun k => Value.int .i64 k.s) rfl (show (w5.alloc (.cells #[.int .i64 o.sp] 3)).drew.ownsRow base 3 1 (.slice s3 ks.length cap3) ks.length (ks.map fun k => Value.int .i64 k.s) from Hr34.out.alloc _) ⟨w5.heap.size, 0, none⟩ 1 1 [.int .i64 o.sp] rfl rfl (cell_one_new _ _ _) (by simp [Value.oneCell']) (by simp [maxLen]; omega) (by omega) (by simp; omega) ?_; intro v3' w6 ho6 hg6 hat6; have hg6' : (w5.alloc (.cells #[.int .i64 o.sp] 3)).drew.grownBy w6 (Value.slice s3 ks.length cap3).ownBlock := hg6; have Ho6 : Hid (w6.ownsRow base 3 1 v3' (ks.length + 1) (ks.map (fun k => Value.int .i64 k.s) ++ [.int .i64 o.sp])) := ho6; obtain ⟨gv, capv, hve⟩ := ownsRow_succ ho6; subst hve; have hp6 : w6.heap[p]? = some (.cells #[.pointer (some ⟨a, 0, none⟩), .pointer (some ⟨r, 0, none⟩), .slice (some ⟨gk, 0, none⟩) (ks.length + 1) capk, v3] 39 (0, 0)) := (hg6'.block p (by show p < (w5.alloc _).heap.size; simp; omega) hnp3).trans ((Below.heap_alloc w5 _ p hp5l).trans HP.out); have e6 := cell_of_row _ _ 3 _ _ _ hp6; have z6 : w6.frozen? ⟨p, 3, none⟩ = false := (by unfold World.frozen?; first | (simp only [hp6]; done) | (simp only [hp6]; simp)); have HP6 : Hid (w6.heap[p]? = some (.cells #[.pointer (some ⟨a, 0, none⟩), .pointer (some ⟨r, 0, none⟩), .slice (some ⟨gk, 0, none⟩) (ks.length + 1) capk, v3] 39 (0, 0))) := hp6; have HG6 : Hid ((w5.alloc (.cells #[.int .i64 o.sp] 3)).drew.grownBy w6 (Value.slice s3 ks.length cap3).ownBlock ∧ ((Value.slice (some ⟨gv, 0, none⟩) (ks.length + 1) capv).ownBlock = (Value.slice s3 ks.length cap3).ownBlock ∨ (Value.slice (some ⟨gv, 0, none⟩) (ks.length + 1) capv).ownBlock = some (w5.heap.size + 1))) := ⟨hg6', by simpa using hat6⟩; clear hp6 hg6 hg6' hat6 ho6)
  all_goals
    go_wp2
    go_ret
    obtain ⟨T4, R2⟩ := HT4.out
    obtain ⟨G6, A6⟩ := HG6.out
    have t6 : Touch (Value.slice s3 ks.length cap3).ownBlock.toList w5 w6 := ⟨G6.os, G6.tape, G6.output, Nat.le_trans (by show w5.heap.size ≤ (w5.alloc _).heap.size; simp) G6.size, fun k hk hn => (G6.block k (by show k < (w5.alloc _).heap.size; simp; omega) (fun e => hn (by simp [← e]))).trans (Below.heap_alloc w5 _ k hk)⟩
    have hnv : some p ≠ (Value.slice (some ⟨gv, 0, none⟩) (ks.length + 1) capv).ownBlock := row_ne HP6.out Ho6.out (by decide)
    have hnk : some p ≠ (Value.slice (some ⟨gk, 0, none⟩) (ks.length + 1) capk).ownBlock := row_ne HP.out R2 (by decide)
    have h65 : ∀ q, (Value.slice (some ⟨gk, 0, none⟩) (ks.length + 1) capk).ownBlock = some q → (Value.slice s3 ks.length cap3).ownBlock ≠ some q := fun q hq => rows_ne R2 Hr34.out (by decide) q hq
    have tall : Touch (p :: (v2.ownBlock.toList ++ v3.ownBlock.toList)) w1 (w6.setCell ⟨p, 3, none⟩ (.slice (some ⟨gv, 0, none⟩) (ks.length + 1) capv)) := ((T4.mono (fun k hk => .inl (by simp at hk ⊢; rcases hk with h | h; exact .inl h; exact .inr (.inl h)))).trans (t6.mono (fun k hk => .inl (by rw [hv3]; simp at hk ⊢; exact .inr (.inr hk))))).trans (Touch.setCell _ _ _ (by simp))
    have hcl : ∀ (q : Nat) (u : Value), w.heap.size < q → w1.cell? ⟨q, 0, none⟩ = some u → (∀ k, k ∈ p :: (v2.ownBlock.toList ++ v3.ownBlock.toList) → k ≤ w.heap.size) → (w6.setCell ⟨p, 3, none⟩ (.slice (some ⟨gv, 0, none⟩) (ks.length + 1) capv)).cell? ⟨q, 0, none⟩ = some u := fun q u hq hc hall => (World.cell?_of_block (w := w1) (tall.block q (World.block_lt_of_cell? _ _ hc) (fun hm => by have := hall q hm; omega))).trans hc
    exact ⟨rfl, ca, .slice (some ⟨gk, 0, none⟩) (ks.length + 1) capk, .slice (some ⟨gv, 0, none⟩) (ks.length + 1) capv, by have := HD.out.2.2; omega, hcl _ _ HD.out.2.2 HD.out.1 HALL.out, hcl _ _ (by have := HD.out.2.2; omega) HD.out.2.1 HALL.out, set_at HP6.out 3 _, ownsRow_setOther (row_keep R2 (fun q hq => t6.block q (row_lt R2 q hq) (fun hm => h65 q hq (by simpa using hm)))) (a := ⟨p, 3, none⟩) hnk _, ownsRow_setOther Ho6.out (a := ⟨p, 3, none⟩) hnv _, (Touch.of_below LB.out _).trans tall, hat2, fun q hq => by
      rcases A6 with e | e
      · rw [hv3]; exact .inl (by rw [← e]; exact hq)
      · rw [e] at hq; simp at hq; exact .inr (by omega), by have := tall.size; omega⟩

end

end Go.Proofs.YtbdkcelggffneaaGreatDoor
