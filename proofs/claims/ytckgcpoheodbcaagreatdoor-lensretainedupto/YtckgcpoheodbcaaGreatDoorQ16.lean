import Derived.Test.YtckgcpoheodbcaaGreatDoorQ10
import Derived.Laws.CopyOwn
import Derived.Test.YtckgcpoheodbcaaGreatDoorRows
set_option linter.unusedVariables false
set_option maxHeartbeats 8000000
set_option maxRecDepth 20000
namespace Go.Proofs.YtckgcpoheodbcaaGreatDoor
open Go.RowKit Go.Shelf
theorem mul64_one (y : Nat) (hy : y < 4294967296) (w : World) : Calls Tryz.prog 121 #[.int .u64 1, .int .u64 (y : Int)] w fun e w' => e = .returned (.tuple #[.int .u64 0, .int .u64 (y : Int)]) ∧ w' = w := by
 have e1 : bits .and .u64 1 4294967295 = 1 := (mask 32 4294967295 (by decide) (by decide) (m := 1) ⟨by omega, by omega⟩).trans (by decide)
 have e2 : bits .and .u64 (y : Int) 4294967295 = (y : Int) := (mask 32 4294967295 (by decide) (by decide) (m := (y : Int)) ⟨by omega, by omega⟩).trans (by omega)
 have e3 : bits .and .u64 0 4294967295 = 0 := (mask 32 4294967295 (by decide) (by decide) (m := 0) ⟨by omega, by omega⟩).trans (by decide)
 have e4 : (y : Int) / 4294967296 = 0 := by omega
 have e5 : IntKind.u64.wrap (y : Int) = (y : Int) := by rw [IntKind.wrap_u64]; omega
 go_enter Tryz.func121, Tryz.ntmps121
 go_wp2
 go_ret2
 exact ⟨rfl, rfl⟩
theorem mul_one (y : Nat) (hy : y < 4294967296) (w : World) : Calls Tryz.prog 94 #[.int .u64 1, .int .u64 (y : Int)] w fun e w' => e = .returned (.tuple #[.int .u64 0, .int .u64 (y : Int)]) ∧ w' = w := by
 have q := mul64_one y hy w
 go_enter Tryz.func94, Tryz.ntmps94
 go_wp2_with fail
 refine q.mono ?_
 rintro e w' ⟨rfl, rfl⟩
 go_wp2
 go_ret2
 exact ⟨rfl, rfl⟩
def rcl (z : Int) (m n : Nat) : List Value := List.replicate n (.int .i64 z) ++ List.replicate (m - n) (.int .i64 0)
theorem rcl_len {z : Int} {m n : Nat} (h : n ≤ m) : (rcl z m n).length = m := by unfold rcl; simp; omega
theorem rcl_zero (z : Int) (m : Nat) : rcl z m 0 = List.replicate m (.int .i64 0) := by unfold rcl; simp
theorem rcl_splice {z : Int} {m n c : Nat} (h : n + c ≤ m) : splice (rcl z m n) n (List.replicate c (.int .i64 z)) = rcl z m (n + c) := by
 unfold splice rcl
 rw [List.take_left' (by simp), List.length_replicate, List.drop_append]
 simp only [List.length_replicate, List.drop_replicate]
 rw [show n - (n + c) = 0 by omega, List.replicate_zero, List.nil_append, show m - n - (n + c - n) = m - (n + c) by omega, ← List.append_assoc, List.replicate_append_replicate]
theorem made_rcl (z : Int) (m : Nat) : madeCells #[.int .i64 0] m = (rcl z m 0).toArray := by
 rw [rcl_zero]
 apply Array.ext
 ·simp [madeCells]
 ·intro i h1 h2
  simp [madeCells, Nat.mod_one]
theorem repeat_any (b m : Nat) (z : Int) (w : World) (hc : w.cell? ⟨b, 0, none⟩ = some (.int .i64 z)) (hb : b < w.heap.size) (h1 : 1 ≤ m) (h2 : m ≤ 2000000) :
  Calls Tryz.prog 64 #[.slice (some ⟨b, 0, none⟩) 1 1, .int .i64 (m : Int)] w fun e w' => e = .returned (.slice (some ⟨w.heap.size, 0, none⟩) m m) ∧ w'.heap[w.heap.size]? = some (.cells (rcl z m m).toArray 3 (0, 0)) ∧ Below w.heap.size w w' := by
 obtain ⟨i0, hi0, hj0, hj1, hj2⟩ := info_p17 infoI17
 have hi64 : (Tryz.prog.info? 3).map (·.size) = some 1 := by rw [hi0]; simp [hj1]
 have HI : Hid ((Tryz.prog.info? 3).map (·.size) = some 1) := hi64
 clear hi0 hj0 hj1 hj2 hi64
 have q := mul_one m (by omega) w
 have e5 : IntKind.u64.wrap (m : Int) = (m : Int) := by rw [IntKind.wrap_u64]; omega
 have hmk := make_ints17 m (by omega)
 have g1 : decide ((m : Int) < 0) = false := decide_eq_false (by omega)
 have g2 : decide ((9223372036854775807 : Int) < (m : Int)) = false := decide_eq_false (by omega)
 go_enter Tryz.func64, Tryz.ntmps64
 go_wp2_with fail
 refine q.mono ?_
 rintro e w' ⟨rfl, rfl⟩
 clear q
 go_upto_region 7 with fail
 obtain ⟨g, hg⟩ : ∃ g, g = w'.heap.size := ⟨_, rfl⟩
 have hx : (w'.alloc (.cells (madeCells #[.int .i64 0] m) 3)).heap[g]? = some (.cells (rcl z m 0).toArray 3 (0, 0)) := by rw [hg, ← made_rcl]; exact heap_alloc_new w' _
 have b1 : Below g w' (w'.alloc (.cells (madeCells #[.int .i64 0] m) 3)) := by rw [hg]; exact Below.alloc (Below.refl _ _) (Nat.le_refl _) _
 have hc1 := (b1.cell (p := ⟨b, 0, none⟩) (by rw [hg]; exact hb)).trans hc
 rw [← hg]
 have HG : Hid (g = w'.heap.size) := hg
 clear hg hmk g1 g2 e5 hc
 generalize w'.alloc (.cells (madeCells #[.int .i64 0] m) 3) = w1 at *
 obtain ⟨C1, hC1⟩ : ∃ x, x = [Value.int .i64 z] := ⟨_, rfl⟩
 have HC1 : Hid (C1 = List.replicate 1 (Value.int .i64 z)) := hC1
 have HC3 : Hid (∀ j v, C1[j]? = some v → w1.cell? ((⟨b, 0, none⟩ : Addr).add j) = some v) := fun j v hj => by
  rw [hC1] at hj
  cases j with
  | zero => cases hj; rw [Addr.add_lit]; exact hc1
  | succ j => simp at hj
 have HC4 : Hid (∀ v, v ∈ C1 → v.oneCell' = true) := fun v hv => by rw [hC1] at hv; simp at hv; rw [hv]; rfl
 have HC5 : Hid (C1.length = Nat.min 1 m ∧ 0 + C1.length ≤ (rcl z m 0).length) := by
  rw [rcl_len (Nat.zero_le _), hC1]
  refine ⟨?_, by simp; omega⟩
  show 1 = min 1 m
  omega
 go_wp2_with (refine wpList_copy_splice rfl (.tmp 31) (.tmp 32) 24 24 rfl 3 Tryz.underlying24 HI.out _ _ _ _ _ _ rfl rfl g 0 (rcl z m 0) 3 hx C1 HC5.out.1 (fun _ => ⟨rfl, _, rfl, HC3.out⟩) HC5.out.2 HC4.out g w' b1 (Nat.le_refl _) ?_; intro w2 hg2 hb2)
 clear HC3 HC4 HC5
 have e1 : C1.length = 1 := by rw [hC1]; rfl
 have HG2 : Hid (w2.heap[g]? = some (.cells (rcl z m 1).toArray 3 (0, 0))) := by
  have h9 := hg2.out
  rw [HC1.out, rcl_splice (by omega)] at h9
  exact h9
 have HB2 : Hid (Below g w' w2) := hb2
 clear hg2 hb2 hx b1 hc1 hC1 HC1 e1 C1
 go_loopw [8] (fun v wr => ∃ n : Nat, 1 ≤ n ∧ n ≤ m ∧ v = .int .i64 (n : Nat) ∧ Hid (wr.heap[g]? = some (.cells (rcl z m n).toArray 3 (0, 0))) ∧ Hid (Below g w' wr)) (fun v _ => m - (intOf v).toNat)
 case atStart => exact ⟨1, Nat.le_refl _, h1, rfl, HG2, HB2⟩
 case round =>
  obtain ⟨n, hn1, hn2, rfl, HR, HB⟩ := hrel
  by_cases hlt : n < m
  ·have hltI : (n : Int) < (m : Int) := by omega
   have hne : ¬ m = n := by omega
   obtain ⟨c, hc⟩ : ∃ c, c = min n (m - n) := ⟨_, rfl⟩
   have hc1 : 1 ≤ c ∧ n + c ≤ m := by omega
   obtain ⟨C1, hC1⟩ : ∃ x, x = List.replicate c (Value.int .i64 z) := ⟨_, rfl⟩
   have HC1 : Hid (C1 = List.replicate c (Value.int .i64 z)) := hC1
   have HCl : Hid (C1.length = c) := by show _ = _; rw [hC1, List.length_replicate]
   have HC2 : Hid (∀ j v, C1[j]? = some v → j < n ∧ v = .int .i64 z) := fun j v hj => by
    rw [hC1, List.getElem?_replicate] at hj
    split at hj
    ·cases hj; exact ⟨by omega, rfl⟩
    ·cases hj
   have HCm : Hid (c = Nat.min n (m - n)) := hc
   clear hC1 hc
   go_upto_region 9 with fail
   have HF1 : Hid (wr.drew.heap[g]? = some (.cells (rcl z m n).toArray 3 (0, 0))) := HR
   have HF3 : Hid (∀ j v, C1[j]? = some v → wr.drew.cell? ((⟨g, 0, none⟩ : Addr).add j) = some v) := fun j v hj => by
    obtain ⟨h8, rfl⟩ := HC2.out j v hj
    rw [Addr.add_lit, Kg.heap_cell HF1.out]
    unfold rcl
    rw [List.getElem?_toArray, Nat.zero_add, List.getElem?_append_left (by simp; omega), List.getElem?_replicate, if_pos h8]
   have HF4 : Hid (∀ v, v ∈ C1 → v.oneCell' = true) := fun v hv => by
    obtain ⟨j, hj⟩ := List.getElem?_of_mem hv
    rw [(HC2.out j v hj).2]; rfl
   have HF5 : Hid (C1.length = Nat.min n (m - n) ∧ n + C1.length ≤ (rcl z m n).length) := ⟨by rw [HCl.out, HCm.out], by rw [rcl_len hn2, HCl.out]; omega⟩
   have HF6 : Hid (Below g w' wr.drew) := HB.out.drew
   have hcI : (n : Int) + (c : Int) ≤ (m : Int) := by omega
   refine wp_region_any Kg.mixed ?_
   change wpAny _ _ _ _ _ _ _ (World.drew _)
   refine wpAny_take (i := 0) (v := .int .i64 (n : Int)) rfl (by kernel_rfl) (by kernel_rfl) (by kernel_rfl) (fun _ _ _ h => h) (Or.inl ⟨by rfl, fun w => by go_simp⟩) ?_
   change wpAny _ _ _ _ _ _ (Act.put _ (some 38) (.int .i64 (n : Int))) _
   simp only [Act.put, List.setIfInBounds_toArray, List.set_cons_zero, List.set_cons_succ]
   refine wpAny_take (i := 1) (v := .slice (some ⟨g, 0, none⟩) m m) rfl (by kernel_rfl) (by kernel_rfl) (by kernel_rfl) (fun _ _ _ h => h) (Or.inl ⟨by rfl, fun w => by go_simp⟩) ?_
   change wpAny _ _ _ _ _ _ (Act.put _ (some 39) (.slice (some ⟨g, 0, none⟩) m m)) _
   simp only [Act.put, List.setIfInBounds_toArray, List.set_cons_zero, List.set_cons_succ]
   refine wpAny_take (i := 2) (v := .int .i64 (n : Int)) rfl (by kernel_rfl) (by kernel_rfl) (by kernel_rfl) (fun _ _ _ h => h) (Or.inl ⟨by rfl, fun w => by go_simp⟩) ?_
   change wpAny _ _ _ _ _ _ (Act.put _ (some 40) (.int .i64 (n : Int))) _
   simp only [Act.put, List.setIfInBounds_toArray, List.set_cons_zero, List.set_cons_succ]
   refine wpAny_take (i := 3) (v := .slice (some ⟨g, n, none⟩) (m - n) (m - n)) rfl (by kernel_rfl) (by kernel_rfl) (by kernel_rfl) (fun _ _ _ h => h) (Or.inl ⟨by rfl, fun w => by go_simp⟩) ?_
   change wpAny _ _ _ _ _ _ (Act.put _ (some 41) (.slice (some ⟨g, n, none⟩) (m - n) (m - n))) _
   simp only [Act.put, List.setIfInBounds_toArray, List.set_cons_zero, List.set_cons_succ]
   refine wpAny_take (i := 4) (v := .slice (some ⟨g, 0, none⟩) m m) rfl (by kernel_rfl) (by kernel_rfl) (by kernel_rfl) (fun _ _ _ h => h) (Or.inl ⟨by rfl, fun w => by go_simp⟩) ?_
   change wpAny _ _ _ _ _ _ (Act.put _ (some 42) (.slice (some ⟨g, 0, none⟩) m m)) _
   simp only [Act.put, List.setIfInBounds_toArray, List.set_cons_zero, List.set_cons_succ]
   refine wpAny_take (i := 5) (v := .int .i64 (n : Int)) rfl (by kernel_rfl) (by kernel_rfl) (by kernel_rfl) (fun _ _ _ h => h) (Or.inl ⟨by rfl, fun w => by go_simp⟩) ?_
   change wpAny _ _ _ _ _ _ (Act.put _ (some 43) (.int .i64 (n : Int))) _
   simp only [Act.put, List.setIfInBounds_toArray, List.set_cons_zero, List.set_cons_succ]
   refine wpAny_take (i := 6) (v := .slice (some ⟨g, 0, none⟩) n m) rfl (by kernel_rfl) (by kernel_rfl) (by kernel_rfl) (fun _ _ _ h => h) (Or.inl ⟨by rfl, fun w => by go_simp⟩) ?_
   change wpAny _ _ _ _ _ _ (Act.put _ (some 44) (.slice (some ⟨g, 0, none⟩) n m)) _
   simp only [Act.put, List.setIfInBounds_toArray, List.set_cons_zero, List.set_cons_succ]
   refine wpAny_ready (rs := [7]) (by kernel_rfl) (by simp) (AllReady.cons rfl (fun K hK => ?_) (AllReady.nil))
   refine step_copy_splice rfl (.tmp 41) (.tmp 44) 24 24 rfl 3 Tryz.underlying24 HI.out _ _ _ _ _ _ rfl rfl g n (rcl z m n) 3 HF1.out C1 HF5.out.1 (fun _ => ⟨rfl, _, rfl, HF3.out⟩) HF5.out.2 HF4.out g w' HF6.out (Nat.le_refl _) ?_
   intro w4 hg4 hb4
   have HG4 : Hid (w4.heap[g]? = some (.cells (rcl z m (n + c)).toArray 3 (0, 0))) := by
    have h9 := hg4.out
    rw [HC1.out, rcl_splice (by omega)] at h9
    exact h9
   have HB4 : Hid (Below g w' w4) := hb4
   rw [HCl.out]
   clear hg4 hb4
   refine hK _ _ ?_
   clear hK K
   refine wpAny_ready (rs := [8]) (by kernel_rfl) (by simp) (AllReady.cons rfl (fun K hK => ?_) (AllReady.nil))
   go_simp
   refine hK _ _ ?_
   clear hK K
   refine wpAny_ready (rs := [9]) (by kernel_rfl) (by simp) (AllReady.cons rfl (fun K hK => ?_) (AllReady.nil))
   go_simp
   refine hK _ _ ?_
   clear hK K
   refine wpAny_done (by kernel_rfl) ?_ _
   have hwr : IntKind.i64.wrap ((n : Int) + (c : Int)) = ((n + c : Nat) : Int) := by
    rw [IntKind.wrap_i64]
    omega
   rw [hwr]
   go_wp2
   go_roundw
   case rel => exact ⟨n + c, by omega, by omega, rfl, HG4, HB4⟩
   case measure => simp [intOf]; omega
  ·obtain rfl : n = m := by omega
   have hltI : ¬ (n : Int) < (n : Int) := by omega
   go_wp2
   go_ret
   rw [← HG.out]
   exact ⟨rfl, HR.out, HB.out⟩
end Go.Proofs.YtckgcpoheodbcaaGreatDoor
namespace Go.Proofs.YtckgcpoheodbcaaGreatDoor
open Go.RowKit Go.Shelf Go.Lib Go.Sort Go.Proofs.YtckgcpoheodbcaaGreatDoor.Lp
theorem Fz.of_rcl {w : World} {g m : Nat} {z : Int} (h : w.heap[g]? = some (.cells (rcl z m m).toArray 3 (0, 0))) : Fz w g m (fun _ => z) := by
 refine ⟨_, h, by rw [List.size_toArray, rcl_len (Nat.le_refl _)], fun x hx => ?_⟩
 unfold rcl
 rw [List.getElem?_toArray, List.getElem?_append_left (by simpa using hx), List.getElem?_replicate, if_pos hx]
theorem nobodies_any (m : Nat) (w : World) (h1 : 1 ≤ m) (h2 : m ≤ 2000000) :
  Calls Tryz.prog 39 #[.int .i64 (m : Nat)] w fun e w' => ∃ g, e = .returned (.slice (some ⟨g, 0, none⟩) m m) ∧ w.heap.size ≤ g ∧ Fz w' g m (fun _ => -1) ∧ Below w.heap.size w w' := by
 have b1 : Below w.heap.size w (w.alloc (.cells #[.int .i64 (-1)] 3)) := Below.alloc (Below.refl _ _) (Nat.le_refl _) _
 have hc : (w.alloc (.cells #[.int .i64 (-1)] 3)).cell? ⟨w.heap.size, 0, none⟩ = some (.int .i64 (-1)) := Kg.heap_cell (heap_alloc_new w _) 0
 have hs : (w.alloc (.cells #[.int .i64 (-1)] 3)).heap.size = w.heap.size + 1 := by simp
 have q := repeat_any w.heap.size m (-1) _ hc (by rw [hs]; omega) h1 h2
 rw [hs] at q
 have HB : Hid _ := b1
 clear hc
 go_enter Tryz.func39, Tryz.ntmps39
 go_wp2_with fail
 refine q.mono ?_
 rintro e w1 ⟨rfl, hx, bb⟩
 have HF : Hid (Fz w1 (w.heap.size + 1) m (fun _ => -1)) := Fz.of_rcl hx
 have HB1 : Hid (Below w.heap.size w w1) := HB.out.trans (bb.mono (by omega))
 clear q hx bb b1 hs
 go_wp2
 go_ret
 exact ⟨_, rfl, by omega, HF.out, HB1.out⟩
end Go.Proofs.YtckgcpoheodbcaaGreatDoor
namespace Go.Proofs.YtckgcpoheodbcaaGreatDoor.Lt
inductive Anc (par : Nat → Nat) : Nat → Nat → Prop
 | refl (v : Nat) : Anc par v v
 | up {u v : Nat} : v ≠ 0 → Anc par u (par v) → Anc par u v
structure Dt (E : Nat → Nat → Prop) (par : Nat → Nat) (p : Nat) : Prop where
 pl : ∀ v, v ≠ 0 → v < p → par v < v
 pe : ∀ v, v ≠ 0 → v < p → E (par v) v
 fw : ∀ u v, E u v → u < v → Anc par u v
 iv : ∀ u y v, v < p → Anc par u v → u ≤ y → y ≤ v → Anc par u y
 el : ∀ u v, E u v → u < p ∧ v < p
inductive Sp (E : Nat → Nat → Prop) (w : Nat) : Nat → Prop
 | last {v : Nat} : E v w → Sp E w v
 | step {v x : Nat} : E v x → w < x → Sp E w x → Sp E w v
inductive Av (E : Nat → Nat → Prop) (d : Nat) : Nat → Prop
 | root : d ≠ 0 → Av E d 0
 | step {u v : Nat} : Av E d u → E u v → v ≠ d → Av E d v
theorem Anc.trans {par : Nat → Nat} {a b c : Nat} (h : Anc par a b) (k : Anc par b c) : Anc par a c := by
 induction k with
 | refl => exact h
 | up h0 _ ih => exact .up h0 ih
theorem Anc.par_ {par : Nat → Nat} {a b : Nat} (h : Anc par a b) (hne : a ≠ b) : b ≠ 0 ∧ Anc par a (par b) := by
 cases h with
 | refl => exact absurd rfl hne
 | up h0 h => exact ⟨h0, h⟩
section
variable {E : Nat → Nat → Prop} {par : Nat → Nat} {p : Nat} (D : Dt E par p)
include D
theorem Dt.le {u v : Nat} (hv : v < p) (h : Anc par u v) : u ≤ v := by
 induction h with
 | refl => exact Nat.le_refl _
 | @up v h0 _ ih =>
  have := D.pl v h0 hv
  have := ih (by omega)
  omega
theorem Dt.lt {u v : Nat} (hv : v < p) (h : Anc par u v) (hne : u ≠ v) : u < v := by
 have := D.le hv h
 omega
theorem Dt.chain {a b v : Nat} (hv : v < p) (ha : Anc par a v) (hb : Anc par b v) (h : a ≤ b) : Anc par a b := D.iv a b v hv ha h (D.le hv hb)
theorem Dt.top {v : Nat} (hv : v < p) : Anc par 0 v := by
 induction v using Nat.strongRecOn with
 | _ v ih =>
  by_cases h0 : v = 0
  ·rw [h0]; exact .refl 0
  ·have := D.pl v h0 hv
   exact .up h0 (ih _ this (by omega))
theorem Dt.down {d y v : Nat} (hv : v < p) (h : Av E d y) (ha : Anc par y v) (hn : ∀ z, Anc par y z → Anc par z v → z ≠ y → z ≠ d) : Av E d v := by
 induction ha with
 | refl => exact h
 | @up v h0 ha ih =>
  have hp := D.pl v h0 hv
  have h1 := ih (by omega) (fun z h1 h2 => hn z h1 (.up h0 h2))
  refine .step h1 (D.pe v h0 hv) (hn v (.up h0 ha) (.refl v) (fun e => ?_))
  have := D.le (by omega) ha
  omega
theorem Dt.over {d v : Nat} (hv : v < p) (h : v < d) : Av E d v :=
 D.down hv (.root (by omega)) (D.top hv) (fun z _ h2 _ => by have := D.le hv h2; omega)
omit D in
theorem along {d w v : Nat} (h : Av E d v) (hs : Sp E w v) (hd : d < w) : Av E d w := by
 induction hs with
 | last e => exact .step h e (by omega)
 | step e hx _ ih => exact ih (.step h e (by omega))
theorem Dt.sp_anc {w v : Nat} (h : Sp E w v) (hl : v < w) : Anc par v w := by
 cases h with
 | last e => exact D.fw _ _ e hl
 | @step _ x e hx h =>
  have h1 := D.fw v x e (by omega)
  exact D.iv v w x (D.el _ _ e).2 h1 (by omega) (by omega)
inductive Bf (E : Nat → Nat → Prop) (i : Nat) (T : Nat → Prop) : Nat → Prop
 | base {x v : Nat} : x < i → E x v → Bf E i T v
 | step {u v : Nat} : Bf E i T u → i < u → ¬ T u → E u v → Bf E i T v
theorem Dt.bf {i w y : Nat} (hw : w < p) (hT : Anc par i y ∧ y ≠ i ∧ Anc par y w) : ∀ u, Bf E i (fun z => Anc par i z ∧ z ≠ i ∧ Anc par z w) u → (u = y ∨ (y < u ∧ Sp E y u)) → ∃ x, x < i ∧ Sp E y x := by
 have hyw := D.le hw hT.2.2
 intro u hu
 induction hu with
 | @base x v hx e =>
  rintro (rfl | ⟨h1, h2⟩)
  ·exact ⟨x, hx, .last e⟩
  ·exact ⟨x, hx, .step e h1 h2⟩
 | @step u v hu hi hn e ih =>
  intro h
  have hny : u ≠ y := fun h => hn (h ▸ hT)
  have hvp := (D.el _ _ e).2
  have key : y < u := by
   rcases Nat.lt_or_ge y u with h1 | h1
   ·exact h1
   ·exfalso
    have h2 : u < y := by omega
    have h3 : Anc par u y := by
     rcases h with rfl | ⟨h4, -⟩
     ·exact D.fw _ _ e h2
     ·exact D.iv u y v hvp (D.fw _ _ e (by omega)) (by omega) (by omega)
    exact hn ⟨D.iv i u y (by omega) hT.1 (by omega) (by omega), by omega, h3.trans hT.2.2⟩
  refine ih (.inr ⟨key, ?_⟩)
  rcases h with rfl | ⟨h4, h5⟩
  ·exact .last e
  ·exact .step e h4 h5
theorem Dt.core {i w : Nat} (hw : w < p) (hi : i ≠ 0) (ha : Anc par i w) (hne : i ≠ w) (h : Av E i w) : ∃ y x, Anc par i y ∧ y ≠ i ∧ Anc par y w ∧ Av E i y ∧ x < i ∧ Sp E y x := by
 obtain ⟨T, hT⟩ : ∃ T : Nat → Prop, T = fun z => Anc par i z ∧ z ≠ i ∧ Anc par z w := ⟨_, rfl⟩
 have key : ∀ v, Av E i v → (∃ y, T y ∧ Av E i y ∧ Bf E i T y) ∨ v < i ∨ (i < v ∧ ¬ T v ∧ Bf E i T v) := by
  intro v hv
  induction hv with
  | root h0 => exact .inr (.inl (by omega))
  | @step u v hu e hne ih =>
   have hAv : Av E i v := .step hu e hne
   rcases ih with h1 | h1 | ⟨h1, h2, h3⟩
   ·exact .inl h1
   ·rcases Nat.lt_or_ge v i with h4 | h4
    ·exact .inr (.inl h4)
    ·by_cases hTv : T v
     ·exact .inl ⟨v, hTv, hAv, .base h1 e⟩
     ·exact .inr (.inr ⟨by omega, hTv, .base h1 e⟩)
   ·rcases Nat.lt_or_ge v i with h4 | h4
    ·exact .inr (.inl h4)
    ·by_cases hTv : T v
     ·exact .inl ⟨v, hTv, hAv, .step h3 h1 h2 e⟩
     ·exact .inr (.inr ⟨by omega, hTv, .step h3 h1 h2 e⟩)
 have hTw : T w := by rw [hT]; exact ⟨ha, fun e => hne e.symm, .refl w⟩
 rcases key w h with ⟨y, h1, h2, h3⟩ | h1 | ⟨-, h1, -⟩
 ·rw [hT] at h1 h3
  obtain ⟨x, hx, hs⟩ := D.bf hw h1 y h3 (.inl rfl)
  exact ⟨y, x, h1.1, h1.2.1, h1.2.2, h2, hx, hs⟩
 ·have := D.le hw ha; omega
 ·exact absurd hTw h1
structure Sem (E : Nat → Nat → Prop) (p : Nat) (S : Nat → Nat) : Prop where
 sp : ∀ w, w ≠ 0 → w < p → Sp E w (S w)
 mn : ∀ w, w ≠ 0 → w < p → ∀ x, Sp E w x → S w ≤ x
omit D in
def Idm (par : Nat → Nat) (p : Nat) (S I : Nat → Nat) : Prop := ∀ w, w ≠ 0 → w < p → ∃ u, Anc par (S w) u ∧ u ≠ S w ∧ Anc par u w ∧ (∀ y, Anc par (S w) y → y ≠ S w → Anc par y w → S u ≤ S y) ∧ ((S u = S w ∧ I w = S w) ∨ (S u < S w ∧ u ≠ w ∧ I w = I u))
theorem Dt.sem_anc {S : Nat → Nat} (H : Sem E p S) {w : Nat} (h0 : w ≠ 0) (hw : w < p) : S w < w ∧ Anc par (S w) w := by
 have h1 := H.mn w h0 hw _ (.last (D.pe w h0 hw))
 have h2 := D.pl w h0 hw
 exact ⟨by omega, D.sp_anc (H.sp w h0 hw) (by omega)⟩
theorem Dt.idom {S I : Nat → Nat} (H : Sem E p S) (K : Idm par p S I) : ∀ w, w ≠ 0 → w < p → Anc par (I w) (S w) ∧ (I w ≠ 0 → ¬ Av E (I w) w) ∧ (∀ d, d ≠ 0 → d ≠ I w → d ≠ w → Av E d (I w) → Av E d w) := by
 intro w
 induction w using Nat.strongRecOn with
 | _ w ih =>
  intro h0 hw
  obtain ⟨hsl, hsa⟩ := D.sem_anc H h0 hw
  obtain ⟨u, u1, u2, u3, u4, u5⟩ := K w h0 hw
  have huw := D.le hw u3
  have hul : S w < u := D.lt (by omega) u1 (fun e => u2 e.symm)
  rcases u5 with ⟨e1, e2⟩ | ⟨e1, hune, e2⟩
  ·rw [e2]
   refine ⟨.refl _, fun hs hav => ?_, fun d hd1 hd2 hd3 hav => ?_⟩
   ·obtain ⟨y, x, h1, h2, h3, -, h5, h6⟩ := D.core hw hs hsa (by omega) hav
    have h7 := u4 y h1 h2 h3
    have h8 := D.le hw h3
    have h9 := H.mn y (fun e => by have := D.le (by omega) h1; omega) (by omega) x h6
    omega
   ·rcases Nat.lt_or_ge d w with h1 | h1
    ·exact along hav (H.sp w h0 hw) h1
    ·exact D.over hw (by omega)
  ·have hu0 : u ≠ 0 := by omega
   have hup : u < p := by omega
   obtain ⟨i1, i2, i3⟩ := ih u (by omega) hu0 hup
   obtain ⟨usl, usa⟩ := D.sem_anc H hu0 hup
   rw [e2]
   have hiS : I u ≤ S u := D.le (by omega) i1
   have hiw : Anc par (I u) w := (i1.trans usa).trans u3
   refine ⟨i1.trans (D.chain hw (usa.trans u3) hsa (by omega)), fun hi hav => ?_, fun d hd1 hd2 hd3 hav => ?_⟩
   ·obtain ⟨y, x, h1, h2, h3, h4, h5, h6⟩ := D.core hw hi hiw (by omega) hav
    have hyw := D.le hw h3
    have hiy : I u < y := D.lt (by omega) h1 (fun e => h2 e.symm)
    have h9 := H.mn y (by omega) (by omega) x h6
    rcases Nat.lt_or_ge (S w) y with h7 | h7
    ·have h8 := u4 y (D.chain hw hsa h3 (by omega)) (by omega) h3
     omega
    ·have h8 : Anc par y u := (D.chain hw h3 hsa h7).trans u1
     exact i2 hi (D.down hup h4 h8 (fun z h10 h11 h12 => by have := D.le (by have := D.le hup h11; omega) h10; omega))
   ·by_cases hdT : Anc par (S w) d ∧ d ≠ S w ∧ Anc par d w
    ·have h1 : S w < d := D.lt (by have := D.le hw hdT.2.2; omega) hdT.1 (fun e => hdT.2.1 e.symm)
     have h2 := D.lt hw hdT.2.2 hd3
     exact along (D.over (d := d) (v := S w) (by omega) h1) (H.sp w h0 hw) h2
    ·have hdu : d ≠ u := fun e => hdT (e ▸ ⟨u1, u2, u3⟩)
     have h1 := i3 d hd1 hd2 hdu hav
     refine D.down hw h1 u3 (fun z h2 h3 h4 e => hdT (e ▸ ⟨u1.trans h2, fun h5 => ?_, h3⟩))
     have := D.le (by have := D.le hw h3; omega) h2
     omega
end
section
variable {E : Nat → Nat → Prop} {par : Nat → Nat} {p : Nat} (D : Dt E par p)
include D
theorem Dt.sp_up {w u v : Nat} (hv : v < p) (ha : Anc par u v) (hu : w < u) (h : Sp E w v) : Sp E w u := by
 induction ha with
 | refl => exact h
 | @up v h0 ha ih =>
  have h1 := D.pl v h0 hv
  have h2 := D.le (by omega) ha
  exact ih (by omega) (.step (D.pe v h0 hv) (by omega) h)
omit D in
theorem sp_then {w u x : Nat} (h : Sp E u x) (hu : w < u) (k : Sp E w u) : Sp E w x := by
 induction h with
 | last e => exact .step e hu k
 | step e hx _ ih => exact .step e (by omega) ih
theorem Dt.sp_via {w v : Nat} (h : Sp E w v) (hv : w < v) : ∃ z u, E z w ∧ w < z ∧ w < u ∧ Anc par u z ∧ (v = u ∨ (u < v ∧ Sp E u v)) := by
 induction h with
 | @last v e => exact ⟨v, v, e, hv, hv, .refl v, .inl rfl⟩
 | @step v x e hx h ih =>
  obtain ⟨z, u, h1, h2, h3, h4, h5⟩ := ih hx
  rcases Nat.lt_trichotomy v u with h6 | h6 | h6
  ·have hux : u ≤ x := by rcases h5 with rfl | ⟨h7, -⟩ <;> omega
   have h7 := D.fw v x e (by omega)
   have h8 := D.iv v u x (D.el _ _ e).2 h7 (by omega) hux
   exact ⟨z, v, h1, h2, hv, h8.trans h4, .inl rfl⟩
  ·exact ⟨z, u, h1, h2, h3, h4, .inl h6⟩
  ·refine ⟨z, u, h1, h2, h3, h4, .inr ⟨h6, ?_⟩⟩
   rcases h5 with rfl | ⟨h7, h8⟩
   ·exact .last e
   ·exact .step e h7 h8
theorem Dt.semi {S : Nat → Nat} {w s : Nat} (h0 : w ≠ 0) (hw : w < p) (hS : ∀ u, w < u → u < p → Sp E u (S u) ∧ ∀ x, Sp E u x → S u ≤ x)
  (ha : s = w ∨ ∃ v, E v w ∧ ((v < w ∧ s = v) ∨ (w < v ∧ ∃ u, w < u ∧ Anc par u v ∧ s = S u)))
  (hb : ∀ v, E v w → (v < w → s ≤ v) ∧ (w < v → ∀ u, w < u → Anc par u v → s ≤ S u)) : Sp E w s ∧ ∀ x, Sp E w x → s ≤ x := by
 have hsw : s < w := by
  have h1 := (hb _ (D.pe w h0 hw)).1 (D.pl w h0 hw)
  have := D.pl w h0 hw
  omega
 constructor
 ·rcases ha with h | ⟨v, e, ⟨h1, rfl⟩ | ⟨h1, u, h2, h3, rfl⟩⟩
  ·omega
  ·exact .last e
  ·have hvp := (D.el _ _ e).1
   have hup : u < p := by have := D.le hvp h3; omega
   exact sp_then (hS u h2 hup).1 h2 (D.sp_up hvp h3 h2 (.last e))
 ·intro x hx
  cases hx with
  | last e =>
   rcases Nat.lt_or_ge x w with h1 | h1
   ·exact (hb x e).1 h1
   ·omega
  | @step _ v e hv h =>
   obtain ⟨z, u, h1, h2, h3, h4, h5⟩ := D.sp_via h hv
   have hup : u < p := by have := D.le (D.el _ _ h1).1 h4; have := (D.el _ _ h1).1; omega
   have h6 := (hb z h1).2 h2 u h3 h4
   have h7 := (hS u h3 hup).2 x (by
    rcases h5 with rfl | ⟨h8, h9⟩
    ·exact .last e
    ·exact .step e h8 h9)
   omega
end
theorem anc_congr {par par' : Nat → Nat} {p : Nat} (hpl : ∀ v, v ≠ 0 → v < p → par v < v) (he : ∀ v, v < p → par' v = par v) {u v : Nat} (hv : v < p) (h : Anc par u v) : Anc par' u v := by
 induction h with
 | refl => exact .refl _
 | @up v h0 _ ih =>
  have := hpl v h0 hv
  exact .up h0 (by rw [he v hv]; exact ih (by omega))
def Ed (W : Nat → List Nat) (ord : List Nat) (u v : Nat) : Prop := ∃ a b, ord[u]? = some a ∧ ord[v]? = some b ∧ b ∈ W a
structure Df (W : Nat → List Nat) (ord : List Nat) (par : Nat → Nat) (st : List (Nat × Nat)) : Prop where
 nd : ord.Nodup
 z : ord[0]? = some 0
 d : Dt (Ed W ord) par ord.length
 i1 : ∀ x, x ∈ st → x.1 < ord.length ∧ Anc par x.1 (ord.length - 1) ∧ ∃ a, ord[x.1]? = some a ∧ x.2 ∈ W a
 i2 : st.Pairwise (fun a b => b.1 ≤ a.1)
 i3 : ∀ (u : Nat) a, ord[u]? = some a → ∀ t, t ∈ W a → t ∈ ord ∨ (u, t) ∈ st
variable {W : Nat → List Nat} {ord : List Nat} {par : Nat → Nat} {st : List (Nat × Nat)}
theorem Df.skip {f t : Nat} (h : Df W ord par ((f, t) :: st)) (ht : t ∈ ord) : Df W ord par st := by
 refine ⟨h.nd, h.z, h.d, fun x hx => h.i1 x (List.mem_cons_of_mem _ hx), (List.pairwise_cons.1 h.i2).2, fun u a hu t' ht' => ?_⟩
 rcases h.i3 u a hu t' ht' with h1 | h1
 ·exact .inl h1
 ·rcases List.mem_cons.1 h1 with h2 | h2
  ·cases h2; exact .inl ht
  ·exact .inr h2
theorem Df.start {new : List (Nat × Nat)} (h1 : ∀ x, x ∈ new → x.1 = 0 ∧ x.2 ∈ W 0) (h2 : ∀ t, t ∈ W 0 → t ≠ 0 → (0, t) ∈ new) : Df W [0] (fun _ => 0) new := by
 have hz : ∀ (v : Nat) b, ([0] : List Nat)[v]? = some b → v = 0 ∧ b = 0 := fun v b h => by
  cases v with
  | zero => cases h; exact ⟨rfl, rfl⟩
  | succ v => simp at h
 refine ⟨by simp, rfl, ⟨fun v h0 hv => ?_, fun v h0 hv => ?_, fun u v ⟨a, b, hu, hv, _⟩ hl => ?_, fun u y v hv ha hu hy => ?_, fun u v ⟨a, b, hu, hv, _⟩ => ?_⟩, fun x hx => ?_, ?_, fun u a hu t ht => ?_⟩
 ·simp at hv; exact absurd hv h0
 ·simp at hv; exact absurd hv h0
 ·have := (hz u a hu).1; have := (hz v b hv).1; omega
 ·simp at hv
  subst hv
  have : y = 0 := by omega
  subst this
  exact ha
 ·have := (hz u a hu).1; have := (hz v b hv).1; simp; omega
 ·obtain ⟨h3, h4⟩ := h1 x hx
  exact ⟨by simp [h3], by rw [h3]; exact .refl 0, 0, by rw [h3]; rfl, h4⟩
 ·rw [List.pairwise_iff_forall_sublist]
  intro a b hab
  have h3 := (h1 a (hab.subset (by simp))).1
  have h4 := (h1 b (hab.subset (by simp))).1
  omega
 ·obtain ⟨rfl, rfl⟩ := hz u a hu
  by_cases h0 : t = 0
  ·exact .inl (by simp [h0])
  ·exact .inr (h2 t ht h0)
theorem Df.step {f t : Nat} (h : Df W ord par ((f, t) :: st)) (ht : t ∉ ord) {new : List (Nat × Nat)} (h1 : ∀ x, x ∈ new → x.1 = ord.length ∧ x.2 ∈ W t) (h2 : ∀ t', t' ∈ W t → t' ∉ ord ++ [t] → (ord.length, t') ∈ new) :
  Df W (ord ++ [t]) (fun v => if v = ord.length then f else par v) (new ++ st) := by
 have hp0 : 0 < ord.length := (List.getElem?_eq_some_iff.1 h.z).1
 obtain ⟨hf, hfa, a, hfo, hta⟩ := h.i1 (f, t) (by simp)
 have hle : ∀ x, x ∈ st → x.1 ≤ f := (List.pairwise_cons.1 h.i2).1
 have hpar : ∀ v, v < ord.length → (if v = ord.length then f else par v) = par v := fun v hv => if_neg (by omega)
 have up : ∀ {u v : Nat}, v < ord.length → Anc par u v → Anc (fun v => if v = ord.length then f else par v) u v := fun hv ha => anc_congr h.d.pl hpar hv ha
 have dn : ∀ {u v : Nat}, v < ord.length → Anc (fun v => if v = ord.length then f else par v) u v → Anc par u v := fun hv ha =>
  anc_congr (fun v h0 hv => by rw [hpar v hv]; exact h.d.pl v h0 hv) (fun v hv => (hpar v hv).symm) hv ha
 have new_up : ∀ {u : Nat}, Anc par u f → Anc (fun v => if v = ord.length then f else par v) u ord.length := fun ha => .up (by omega) (by simp only [if_true]; exact up hf ha)
 have old : ∀ {v b : Nat}, v < ord.length → (ord ++ [t])[v]? = some b → ord[v]? = some b := fun hv hb => by rwa [List.getElem?_append_left hv] at hb
 have oldl : ∀ {v b : Nat}, (ord ++ [t])[v]? = some b → v < ord.length ∨ (v = ord.length ∧ b = t) := fun {v b} hb => by
  rcases Nat.lt_or_ge v ord.length with h3 | h3
  ·exact .inl h3
  ·rw [List.getElem?_append_right h3] at hb
   have h4 := (List.getElem?_eq_some_iff.1 hb).1
   simp at h4
   have h5 : v = ord.length := by omega
   subst h5
   simp at hb
   exact .inr ⟨rfl, hb.symm⟩
 have ed : ∀ {u v : Nat}, u < ord.length → v < ord.length → Ed W (ord ++ [t]) u v → Ed W ord u v := fun hu hv ⟨a, b, h3, h4, h5⟩ => ⟨a, b, old hu h3, old hv h4, h5⟩
 have inr : ∀ {v b : Nat}, ord[v]? = some b → (ord ++ [t])[v]? = some b := fun hb => by rw [List.getElem?_append_left (List.getElem?_eq_some_iff.1 hb).1]; exact hb
 have last : (ord ++ [t])[ord.length]? = some t := by simp
 have lowa : ∀ {u : Nat}, u ≤ f → Anc par u (ord.length - 1) → Anc par u f := fun hu ha => h.d.chain (by omega) ha hfa hu
 refine ⟨?_, inr h.z, ⟨fun v h0 hv => ?_, fun v h0 hv => ?_, fun u v e hl => ?_, fun u y v hv ha hu hy => ?_, fun u v ⟨a, b, hu, hv, _⟩ => ⟨(List.getElem?_eq_some_iff.1 hu).1, (List.getElem?_eq_some_iff.1 hv).1⟩⟩, fun x hx => ?_, ?_, fun u a' hu t' ht' => ?_⟩
 ·rw [List.nodup_append]
  exact ⟨h.nd, by simp, fun x hx y hy e => by
   have : y = t := by simpa using hy
   rw [e, this] at hx
   exact ht hx⟩
 ·rw [List.length_append] at hv
  simp only [List.length_cons, List.length_nil] at hv
  by_cases h3 : v = ord.length
  ·rw [if_pos h3]; omega
  ·rw [if_neg h3]; exact h.d.pl v h0 (by omega)
 ·rw [List.length_append] at hv
  simp only [List.length_cons, List.length_nil] at hv
  by_cases h3 : v = ord.length
  ·rw [if_pos h3, h3]
   exact ⟨a, t, inr hfo, last, hta⟩
  ·rw [if_neg h3]
   obtain ⟨a, b, h4, h5, h6⟩ := h.d.pe v h0 (by omega)
   exact ⟨a, b, inr h4, inr h5, h6⟩
 ·obtain ⟨a1, b1, hu, hv, hab⟩ := e
  rcases oldl hv with h3 | ⟨h3, h4⟩
  ·exact up h3 (h.d.fw u v ⟨a1, b1, old (by omega) hu, old h3 hv, hab⟩ hl)
  ·subst h3 h4
   have hul : u < ord.length := by omega
   rcases h.i3 u a1 (old hul hu) b1 hab with h5 | h5
   ·exact absurd h5 ht
   ·obtain ⟨-, h6, -⟩ := h.i1 _ h5
    rcases List.mem_cons.1 h5 with h7 | h7
    ·cases h7; exact new_up (.refl _)
    ·exact new_up (lowa (hle _ h7) h6)
 ·rw [List.length_append] at hv
  simp only [List.length_cons, List.length_nil] at hv
  by_cases h3 : v = ord.length
  ·subst h3
   by_cases h4 : y = ord.length
   ·rw [h4]; exact ha
   ·have h5 : u ≠ ord.length := by omega
    obtain ⟨-, h6⟩ := ha.par_ h5
    simp only [if_true] at h6
    have h7 := (dn hf h6).trans hfa
    exact up (by omega) (h.d.iv u y (ord.length - 1) (by omega) h7 hu (by omega))
  ·exact up (by omega) (h.d.iv u y v (by omega) (dn (by omega) ha) hu hy)
 ·rcases List.mem_append.1 hx with h3 | h3
  ·obtain ⟨h4, h5⟩ := h1 x h3
   rw [h4]
   exact ⟨by simp, by simpa using Anc.refl _, t, last, h5⟩
  ·obtain ⟨h4, h5, a1, h6, h7⟩ := h.i1 x (List.mem_cons_of_mem _ h3)
   refine ⟨by rw [List.length_append]; omega, ?_, a1, inr h6, h7⟩
   have h8 := new_up (lowa (hle x h3) h5)
   simpa using h8
 ·rw [List.pairwise_append]
  refine ⟨?_, (List.pairwise_cons.1 h.i2).2, fun x hx y hy => ?_⟩
  ·rw [List.pairwise_iff_forall_sublist]
   intro x y hxy
   have h3 := (h1 x (hxy.subset (by simp))).1
   have h4 := (h1 y (hxy.subset (by simp))).1
   omega
  ·have h3 := (h1 x hx).1
   have h4 := hle y hy
   omega
 ·rcases oldl hu with h3 | ⟨h3, h4⟩
  ·rcases h.i3 u a' (old h3 hu) t' ht' with h5 | h5
   ·exact .inl (List.mem_append_left _ h5)
   ·rcases List.mem_cons.1 h5 with h6 | h6
    ·cases h6; exact .inl (by simp)
    ·exact .inr (List.mem_append_right _ h6)
  ·subst h3 h4
   by_cases h5 : t' ∈ ord ++ [a']
   ·exact .inl h5
   ·exact .inr (List.mem_append_left _ (h2 t' ht' h5))
end Go.Proofs.YtckgcpoheodbcaaGreatDoor.Lt
