import Derived.Test.YtdlannfjnljbcaaGreatDoorRTa
import Derived.Handy
import Derived.Laws.MakeOwn
import Derived.Lib.AppendZerosOnto
/-
  Roots in memory.
-/
set_option linter.unusedVariables false
namespace Go.Proofs.YtdlannfjnljbcaaGreatDoor
open Go.RowKit

/-- A function turned at one place. -/
def upd {α : Type} (f : Nat → α) (i : Nat) (x : α) : Nat → α := fun j => if j = i then x else f j

theorem upd_same {α : Type} (f : Nat → α) (i : Nat) (x : α) : upd f i x i = x := by simp [upd]
theorem upd_ne {α : Type} (f : Nat → α) {i j : Nat} (x : α) (h : j ≠ i) : upd f i x j = f j := by simp [upd, h]

/-- What roots hold: T threads (row t * 2: the sizes of thread t's frames, row t * 2 + 1: its slots), most slots a thread, the handles, the queue. -/
structure Sta where
  T : Nat
  most : Nat
  rw : Nat → List Int
  hs : List (Option Int)
  qs : List Int

/-- The cells of the handles. -/
def hcell (hs : List (Option Int)) (j : Nat) : Value :=
  match hs[j / 2]? with
  | some (some x) => if j % 2 = 0 then .bool true else .int .i64 x
  | _ => if j % 2 = 0 then .bool false else .int .i64 0

/-- Roots in block b; g: its threads, h: its handles, q: its queue (of at most N things in its array, FQ its blocks), vs: the threads' rows. -/
structure Rt (w : World) (base b g h q N : Nat) (FQ : List Nat) (vs : Nat → Value) (S : Sta) : Prop where
  bb : base ≤ b
  bg : base ≤ g
  bh : base ≤ h
  own : w.heap[b]? = some (.cells #[.slice (some ⟨g, 0, none⟩) S.T S.T, .int .i64 S.most, .slice (some ⟨h, 0, none⟩) S.hs.length S.hs.length, .pointer (some ⟨q, 0, none⟩)] 68 (0, 0))
  thr : w.rowIs g 84 (S.T * 2) vs
  hnd : w.rowIs h 72 (S.hs.length * 2) (hcell S.hs)
  que : Que w base q 0 N S.qs FQ
  row : ∀ i, i < S.T * 2 → w.ownsRow base 3 1 (vs i) (S.rw i).length (ints (S.rw i))
  ap : ∀ i j k, i < S.T * 2 → j < S.T * 2 → (vs i).ownBlock = some k → (vs j).ownBlock = some k → i = j
  apq : ∀ i k, i < S.T * 2 → (vs i).ownBlock = some k → k ∉ FQ

/-- All blocks. -/
def fp (b g h : Nat) (FQ : List Nat) (T : Nat) (vs : Nat → Value) : List Nat := b :: g :: h :: (FQ ++ (List.range (T * 2)).filterMap fun i => (vs i).ownBlock)

theorem mem_fp {b g h : Nat} {FQ : List Nat} {T : Nat} {vs : Nat → Value} {k : Nat} : k ∈ fp b g h FQ T vs ↔ k = b ∨ k = g ∨ k = h ∨ k ∈ FQ ∨ ∃ i, i < T * 2 ∧ (vs i).ownBlock = some k := by
  simp [fp]

theorem own_keep {w w' : World} {base n e size k : Nat} {v : Value} {xs : List Value} (h : w.ownsRow base e size v n xs) (hk : ∀ k, v.ownBlock = some k → w'.heap[k]? = w.heap[k]?) : w'.ownsRow base e size v n xs := by
  refine ⟨h.1, ?_⟩
  rcases h.2 with hn | ⟨g, cap, cur, rfl, hb', hg, rest⟩
  · exact .inl hn
  · refine .inr ⟨g, cap, cur, rfl, hb', ?_, rest⟩
    rw [hk g rfl]; exact hg

theorem Que.keep2 {W W' : World} {base b N : Nat} {most : Int} {xs : List Int} {F : List Nat} (h : Que W base b most N xs F) (hk : ∀ k, k ∈ F → W'.heap[k]? = W.heap[k]?) : Que W' base b most N xs F := by
  obtain ⟨v, ts, f, hh, hb, hr, h1, h2, h3, rfl⟩ := h
  refine ⟨v, ts, f, ?_, hb, own_keep (k := 0) hr (fun k e => hk k (by simp [e])), h1, h2, h3, rfl⟩
  rw [hk b (by simp)]; exact hh

namespace Rt
variable {w w' : World} {base b g h q N : Nat} {FQ : List Nat} {vs : Nat → Value} {S : Sta}

theorem mem (H : Rt w base b g h q N FQ vs S) : ∀ k, k ∈ fp b g h FQ S.T vs → base ≤ k ∧ k < w.heap.size := by
  intro k hk
  rcases mem_fp.1 hk with rfl | rfl | rfl | hk | ⟨i, hi, hv⟩
  · exact ⟨H.bb, heap_lt H.own⟩
  · exact ⟨H.bg, H.thr.lt⟩
  · exact ⟨H.bh, H.hnd.lt⟩
  · exact H.que.mem k hk
  · exact (H.row i hi).lt k hv

theorem keep (H : Rt w base b g h q N FQ vs S) (hk : ∀ k, k ∈ fp b g h FQ S.T vs → w'.heap[k]? = w.heap[k]?) : Rt w' base b g h q N FQ vs S :=
  ⟨H.bb, H.bg, H.bh, (hk b (by simp [mem_fp])).trans H.own, H.thr.of_block (hk g (by simp [mem_fp])), H.hnd.of_block (hk h (by simp [mem_fp])),
    H.que.keep2 (fun k e => hk k (by simp [mem_fp, e])), fun i hi => own_keep (k := 0) (H.row i hi) (fun k e => hk k (mem_fp.2 (.inr (.inr (.inr (.inr ⟨i, hi, e⟩)))))), H.ap, H.apq⟩

theorem touch (H : Rt w base b g h q N FQ vs S) {G : List Nat} (ht : Touch G w w') (ha : Apart (fp b g h FQ S.T vs) G) : Rt w' base b g h q N FQ vs S :=
  H.keep fun k hk => ht.block k (H.mem k hk).2 (ha k hk)

theorem b_ne_g (H : Rt w base b g h q N FQ vs S) : b ≠ g := by
  rintro rfl
  obtain ⟨c, hc, -⟩ := H.thr
  have := H.own.symm.trans hc
  simp at this

theorem b_ne_h (H : Rt w base b g h q N FQ vs S) : b ≠ h := by
  rintro rfl
  obtain ⟨c, hc, -⟩ := H.hnd
  have := H.own.symm.trans hc
  simp at this

theorem g_ne_h (H : Rt w base b g h q N FQ vs S) : g ≠ h := by
  rintro rfl
  obtain ⟨c, hc, -⟩ := H.hnd
  obtain ⟨d, hd, -⟩ := H.thr
  have := hd.symm.trans hc
  simp at this

theorem que_type (H : Rt w base b g h q N FQ vs S) {k : Nat} (hk : k ∈ FQ) : ∃ c t, w.heap[k]? = some (.cells c t (0, 0)) ∧ (t = 94 ∨ t = 3) := by
  obtain ⟨v, ts, f, hh, hb, hr, h1, h2, h3, rfl⟩ := H.que
  rcases List.mem_cons.1 hk with rfl | hk
  · exact ⟨_, _, hh, .inl rfl⟩
  · rcases hr.2 with ⟨rfl, _⟩ | ⟨g', cap, cur, rfl, hb', hg, rest⟩
    · simp [Value.ownBlock] at hk
    · simp [Value.ownBlock] at hk; subst hk; exact ⟨_, _, hg, .inr rfl⟩

theorem row_type (H : Rt w base b g h q N FQ vs S) {i k : Nat} (hi : i < S.T * 2) (hk : (vs i).ownBlock = some k) : ∃ c, w.heap[k]? = some (.cells c 3 (0, 0)) := by
  rcases (H.row i hi).2 with ⟨e, _⟩ | ⟨g', cap, cur, e, hb', hg, rest⟩
  · rw [e] at hk; simp [Value.ownBlock] at hk
  · rw [e] at hk; simp [Value.ownBlock] at hk; subst hk; exact ⟨_, hg⟩

theorem b_nq (H : Rt w base b g h q N FQ vs S) : b ∉ FQ := fun hk => by
  obtain ⟨c, t, hc, ht⟩ := H.que_type hk
  have := H.own.symm.trans hc
  simp at this
  rcases ht with rfl | rfl <;> simp at this

theorem g_nq (H : Rt w base b g h q N FQ vs S) : g ∉ FQ := fun hk => by
  obtain ⟨c, t, hc, ht⟩ := H.que_type hk
  obtain ⟨d, hd, -⟩ := H.thr
  have := hd.symm.trans hc
  simp at this
  rcases ht with rfl | rfl <;> simp at this

theorem h_nq (H : Rt w base b g h q N FQ vs S) : h ∉ FQ := fun hk => by
  obtain ⟨c, t, hc, ht⟩ := H.que_type hk
  obtain ⟨d, hd, -⟩ := H.hnd
  have := hd.symm.trans hc
  simp at this
  rcases ht with rfl | rfl <;> simp at this

theorem row_ne_b (H : Rt w base b g h q N FQ vs S) {i k : Nat} (hi : i < S.T * 2) (hk : (vs i).ownBlock = some k) : k ≠ b := by
  rintro rfl
  obtain ⟨c, hc⟩ := H.row_type hi hk
  have := H.own.symm.trans hc
  simp at this

theorem row_ne_g (H : Rt w base b g h q N FQ vs S) {i k : Nat} (hi : i < S.T * 2) (hk : (vs i).ownBlock = some k) : k ≠ g := by
  rintro rfl
  obtain ⟨c, hc⟩ := H.row_type hi hk
  obtain ⟨d, hd, -⟩ := H.thr
  have := hd.symm.trans hc
  simp at this

theorem row_ne_h (H : Rt w base b g h q N FQ vs S) {i k : Nat} (hi : i < S.T * 2) (hk : (vs i).ownBlock = some k) : k ≠ h := by
  rintro rfl
  obtain ⟨c, hc⟩ := H.row_type hi hk
  obtain ⟨d, hd, -⟩ := H.hnd
  have := hd.symm.trans hc
  simp at this

/-- A thread's row becomes another one. -/
theorem setRow (H : Rt w base b g h q N FQ vs S) {i : Nat} (hi : i < S.T * 2) {v' : Value} {l' : List Int} (ht : Touch (g :: (vs i).ownBlock.toList) w w')
    (hg : w'.rowIs g 84 (S.T * 2) (upd vs i v')) (hr : w'.ownsRow base 3 1 v' l'.length (ints l')) (hat : v'.ownBlock = (vs i).ownBlock ∨ ∀ k, v'.ownBlock = some k → w.heap.size ≤ k) :
    Rt w' base b g h q N FQ (upd vs i v') { S with rw := upd S.rw i l' } := by
  have blk : ∀ k, k < w.heap.size → k ≠ g → (vs i).ownBlock ≠ some k → w'.heap[k]? = w.heap[k]? := fun k hk h1 h2 => ht.block k hk (by simp [h1]; exact h2)
  have old : ∀ j k, j < S.T * 2 → j ≠ i → (vs j).ownBlock = some k → w'.heap[k]? = w.heap[k]? := fun j k hj hji hk =>
    blk k ((H.row j hj).lt k hk).2 (H.row_ne_g hj hk) (fun e => hji (H.ap j i k hj hi hk e))
  have newq : ∀ k, v'.ownBlock = some k → k ∉ FQ := fun k hk hm => by
    rcases hat with e | e
    · exact H.apq i k hi (e ▸ hk) hm
    · have := e k hk; have := (H.que.mem k hm).2; omega
  have newr : ∀ j k, j < S.T * 2 → j ≠ i → v'.ownBlock = some k → (vs j).ownBlock ≠ some k := fun j k hj hji hk hm => by
    rcases hat with e | e
    · exact hji (H.ap j i k hj hi hm (e ▸ hk))
    · have := e k hk; have := ((H.row j hj).lt k hm).2; omega
  refine ⟨H.bb, H.bg, H.bh, ?_, hg, H.hnd.of_block ?_, H.que.keep2 ?_, fun j hj => ?_, fun j j' k hj hj' hk hk' => ?_, fun j k hj hk => ?_⟩
  · exact (blk b (heap_lt H.own) H.b_ne_g (fun e => H.row_ne_b hi e rfl)).trans H.own
  · exact blk h H.hnd.lt (Ne.symm H.g_ne_h) (fun e => H.row_ne_h hi e rfl)
  · exact fun k hk => blk k (H.que.mem k hk).2 (fun e => H.g_nq (e ▸ hk)) (fun e => H.apq i k hi e hk)
  · by_cases e : j = i
    · subst e
      simp only [upd_same]
      exact hr
    · simp only [upd_ne _ _ e]
      exact own_keep (k := 0) (H.row j hj) (fun k hk => old j k hj e hk)
  · by_cases e : j = i
    · by_cases e' : j' = i
      · rw [e, e']
      · subst e
        rw [upd_same] at hk
        rw [upd_ne _ _ e'] at hk'
        exact absurd hk' (newr j' k hj' e' hk)
    · by_cases e' : j' = i
      · subst e'
        rw [upd_same] at hk'
        rw [upd_ne _ _ e] at hk
        exact absurd hk (newr j k hj e hk')
      · rw [upd_ne _ _ e] at hk
        rw [upd_ne _ _ e'] at hk'
        exact H.ap j j' k hj hj' hk hk'
  · by_cases e : j = i
    · subst e
      rw [upd_same] at hk
      exact newq k hk
    · rw [upd_ne _ _ e] at hk
      exact H.apq j k hj hk

/-- A thread's row is written in its place. -/
theorem setIn (H : Rt w base b g h q N FQ vs S) {i : Nat} (hi : i < S.T * 2) {l' : List Int} (ht : Touch ((vs i).ownBlock.toList) w w') (hl : l'.length = (S.rw i).length)
    (hr : w'.ownsRow base 3 1 (vs i) l'.length (ints l')) : Rt w' base b g h q N FQ vs { S with rw := upd S.rw i l' } := by
  have hg : w'.heap[g]? = w.heap[g]? := ht.block g H.thr.lt (fun hm => H.row_ne_g hi (by simpa using hm) rfl)
  have e : upd vs i (vs i) = vs := by funext j; by_cases e : j = i <;> simp [upd, e]
  have := H.setRow hi (ht.mono (fun k hk => .inl (by simp [hk]))) (v' := vs i) (by rw [e]; exact H.thr.of_block hg) hr (.inl rfl)
  rw [e] at this
  exact this

/-- The queue becomes another one. -/
theorem setQue (H : Rt w base b g h q N FQ vs S) {N' : Nat} {FQ' : List Nat} {qs' : List Int} (ht : Touch FQ w w') (hq : Que w' base q 0 N' qs' FQ') (hn : Newer w.heap.size FQ FQ') :
    Rt w' base b g h q N' FQ' vs { S with qs := qs' } := by
  have blk : ∀ k, k < w.heap.size → k ∉ FQ → w'.heap[k]? = w.heap[k]? := ht.block
  refine ⟨H.bb, H.bg, H.bh, (blk b (heap_lt H.own) H.b_nq).trans H.own, H.thr.of_block (blk g H.thr.lt H.g_nq), H.hnd.of_block (blk h H.hnd.lt H.h_nq), hq,
    fun i hi => own_keep (k := 0) (H.row i hi) (fun k e => blk k ((H.row i hi).lt k e).2 (H.apq i k hi e)), H.ap, fun i k hi e hm => ?_⟩
  rcases hn k hm with h1 | h1
  · exact H.apq i k hi e h1
  · have := ((H.row i hi).lt k e).2; omega

/-- The handles become others. -/
theorem setHnd (H : Rt w base b g h q N FQ vs S) {hs' : List (Option Int)} (ht : Touch [h] w w') (hl : hs'.length = S.hs.length) (hh : w'.rowIs h 72 (S.hs.length * 2) (hcell hs')) :
    Rt w' base b g h q N FQ vs { S with hs := hs' } := by
  have blk : ∀ k, k < w.heap.size → k ≠ h → w'.heap[k]? = w.heap[k]? := fun k hk hn => ht.block k hk (by simpa using hn)
  refine ⟨H.bb, H.bg, H.bh, ?_, H.thr.of_block (blk g H.thr.lt H.g_ne_h), by simpa only [hl] using hh, H.que.keep2 (fun k hk => blk k (H.que.mem k hk).2 (fun e => H.h_nq (e ▸ hk))),
    fun i hi => own_keep (k := 0) (H.row i hi) (fun k e => blk k ((H.row i hi).lt k e).2 (H.row_ne_h hi e)), H.ap, H.apq⟩
  simp only [hl]
  exact (blk b (heap_lt H.own) H.b_ne_h).trans H.own

end Rt

end Go.Proofs.YtdlannfjnljbcaaGreatDoor

/-
  Small functions of roots: within, address, thread, top.
-/
set_option linter.unusedVariables false
namespace Go.Proofs.YtdlannfjnljbcaaGreatDoor
open Go.RowKit

set_option maxHeartbeats 400000 in
theorem within_any (n l m : Int) (w : World) :
    Calls Tryz.prog 49 #[.int .i64 n, .int .i64 l, .int .i64 m] w fun e w' => e = .returned (.bool (decide (l ≤ n ∧ n ≤ m))) ∧ w = w' := by
  by_cases h1 : l ≤ n
  · by_cases h2 : n ≤ m
    · go_enter Tryz.func49, Tryz.ntmps49
      go_wp2
      go_ret
      simp [h1, h2]
    · go_enter Tryz.func49, Tryz.ntmps49
      go_wp2
      go_ret
      simp [h2]
  · go_enter Tryz.func49, Tryz.ntmps49
    go_wp2
    go_ret
    simp
    omega

/-- What a number counts as where an address is wanted. -/
def adr (x : Int) : Int := max x 0

theorem adr_nn (x : Int) : 0 ≤ adr x := by unfold adr; omega

theorem adr_of {x : Int} (h : 0 ≤ x) : adr x = x := by unfold adr; omega

theorem address_any (x : Int) (w : World) :
    Calls Tryz.prog 25 #[.int .i64 x] w fun e w' => e = .returned (.int .i64 (adr x)) ∧ w = w' := by
  unfold adr
  go_enter Tryz.func25, Tryz.ntmps25
  go_wp2
  go_ret
  exact ⟨rfl, rfl⟩

/-- The thread number n of T. -/
theorem thread_in (b g T n cap : Nat) (w : World) (h0 : w.cell? ⟨b, 0, none⟩ = some (.slice (some ⟨g, 0, none⟩) T cap)) (hn : n < T) (hT : T ≤ 8) :
    Calls Tryz.prog 32 #[.pointer (some ⟨b, 0, none⟩), .int .i64 n] w fun e w' => e = .returned (.pointer (some ⟨g, n * 2, none⟩)) ∧ w = w' := by
  have hd : decide ((0 : Int) ≤ (n : Int) ∧ (n : Int) ≤ (T : Int) - 1) = true := by simp; omega
  have hni : (n : Int) < (T : Int) := by omega
  have hwi := within_any (n : Int) 0 ((T : Int) - 1) w
  rw [hd] at hwi
  clear hd
  go_enter Tryz.func32, Tryz.ntmps32
  go_wp2_with fail
  refine hwi.mono ?_
  rintro e w' ⟨rfl, rfl⟩
  go_wp2
  go_ret
  exact ⟨rfl, rfl⟩

theorem thread_out (b g T cap : Nat) (n : Int) (w : World) (h0 : w.cell? ⟨b, 0, none⟩ = some (.slice (some ⟨g, 0, none⟩) T cap)) (hn : ¬ (0 ≤ n ∧ n < T)) (hT : T ≤ 8) :
    Calls Tryz.prog 32 #[.pointer (some ⟨b, 0, none⟩), .int .i64 n] w fun e w' => e = .returned (.pointer none) ∧ w = w' := by
  have hd : decide ((0 : Int) ≤ n ∧ n ≤ (T : Int) - 1) = false := by simp; omega
  have hwi := within_any n 0 ((T : Int) - 1) w
  rw [hd] at hwi
  clear hd hn
  go_enter Tryz.func32, Tryz.ntmps32
  go_wp2_with fail
  refine hwi.mono ?_
  rintro e w' ⟨rfl, rfl⟩
  go_wp2
  go_ret
  exact ⟨rfl, rfl⟩

/-- No frame. -/
theorem top_none (g o : Nat) (w : World) (a : Option Addr) (cap : Nat) (h0 : w.cell? ⟨g, o, none⟩ = some (.slice a 0 cap)) :
    Calls Tryz.prog 52 #[.pointer (some ⟨g, o, none⟩)] w fun e w' => e = .returned (.slice none 0 0) ∧ w = w' := by
  go_enter Tryz.func52, Tryz.ntmps52
  go_wp2
  go_ret
  exact ⟨rfl, rfl⟩

/-- The top frame's slots. -/
theorem top_some (g o a k c s n m : Nat) (d : Nat) (w : World) (h0 : w.cell? ⟨g, o, none⟩ = some (.slice (some ⟨a, 0, none⟩) (k + 1) c)) (h1 : w.cell? ⟨g, o + 1, none⟩ = some (.slice (some ⟨s, 0, none⟩) (n + m) d))
    (h2 : w.cell? ⟨a, k, none⟩ = some (.int .i64 m)) (hm : 0 < m) (hn : n + m ≤ 4096) (hk : k < 4096) (hd : n + m ≤ d) :
    Calls Tryz.prog 52 #[.pointer (some ⟨g, o, none⟩)] w fun e w' => e = .returned (.slice (some ⟨s, n, none⟩) m (d - n)) ∧ ∃ nq, w' = w.drewN nq := by
  have e0 : ((k : Int) + 1 - 1) = (k : Int) := by omega
  have e1 : (((n : Int) + (m : Int)) - (m : Int)) = (n : Int) := by omega
  have hne : ¬ (d = n) := by omega
  have e2 : n + m - n = m := by omega
  go_enter Tryz.func52, Tryz.ntmps52
  go_wp2
  go_quiet (fail)
  go_wp2
  go_ret
  exact ⟨by simp [*], nq, rfl⟩

end Go.Proofs.YtdlannfjnljbcaaGreatDoor

/-
  New.
-/
set_option linter.unusedVariables false
namespace Go.Proofs.YtdlannfjnljbcaaGreatDoor
open Go.RowKit

theorem Tryz.infoThread : (Tryz.prog.info? 84).map (fun i => (i.zero, i.size, i.bytes)) = some (some (.agg #[.slice none 0 0, .slice none 0 0]), 2, 48) := by kernel_rfl
theorem Tryz.infoHandle : (Tryz.prog.info? 72).map (fun i => (i.zero, i.size, i.bytes)) = some (some (.agg #[.bool false, .int .i64 0]), 2, 16) := by kernel_rfl

/-- Roots, whatever blocks they lie in; F: their blocks. -/
def Rts (w : World) (base b N : Nat) (S : Sta) (F : List Nat) : Prop := ∃ g h q FQ vs, Rt w base b g h q N FQ vs S ∧ F = fp b g h FQ S.T vs

theorem Rts.mem {w : World} {base b N : Nat} {S : Sta} {F : List Nat} (H : Rts w base b N S F) : ∀ k, k ∈ F → base ≤ k ∧ k < w.heap.size := by
  obtain ⟨g, h, q, FQ, vs, H, rfl⟩ := H
  exact H.mem

theorem Rts.keep {w w' : World} {base b N : Nat} {S : Sta} {F G : List Nat} (H : Rts w base b N S F) (ht : Touch G w w') (ha : Apart F G) : Rts w' base b N S F := by
  obtain ⟨g, h, q, FQ, vs, H, rfl⟩ := H
  exact ⟨g, h, q, FQ, vs, H.touch ht ha, rfl⟩

theorem Rts.nil {w w' : World} {base b N : Nat} {S : Sta} {F : List Nat} (H : Rts w base b N S F) (ht : Touch [] w w') : Rts w' base b N S F := H.keep ht (fun k _ h => by cases h)

/-- What is made. -/
def sta0 (T most H : Nat) : Sta := ⟨T, most, fun _ => [], List.replicate H none, []⟩

theorem made_two (a b : Value) (n j : Nat) (hj : j < n * 2) : (madeCells #[a, b] (n * 2))[j]? = some (if j % 2 = 0 then a else b) := by
  have h : j % 2 = 0 ∨ j % 2 = 1 := by omega
  rcases h with h | h <;> simp [madeCells, hj, h]

theorem hcell_none (H j : Nat) : hcell (List.replicate H none) j = if j % 2 = 0 then .bool false else .int .i64 0 := by
  unfold hcell
  by_cases h : j / 2 < H
  · simp [h]
  · simp [h]

theorem heap3 (w : World) (o0 o1 o2 : Obj) : (((w.alloc o0).alloc o1).alloc o2).heap[w.heap.size]? = some o0 ∧ (((w.alloc o0).alloc o1).alloc o2).heap[w.heap.size + 1]? = some o1 ∧ (((w.alloc o0).alloc o1).alloc o2).heap[w.heap.size + 1 + 1]? = some o2 := by
  refine ⟨?_, ?_, ?_⟩
  · rw [Below.heap_alloc _ _ _ (by simp; omega), Below.heap_alloc _ _ _ (by simp)]; exact heap_alloc_new w _
  · rw [Below.heap_alloc _ _ _ (by simp)]
    have := heap_alloc_new (w.alloc o0) o1
    rwa [World.size_alloc] at this
  · have := heap_alloc_new ((w.alloc o0).alloc o1) o2
    rwa [World.size_alloc, World.size_alloc] at this

theorem touch3 {w w4 : World} (ht : Touch [] w w4) (o0 o1 o2 : Obj) : Touch [] w (((w4.alloc o0).alloc o1).alloc o2).drew := (((ht.trans (Touch.alloc _ _ _)).trans (Touch.alloc _ _ _)).trans (Touch.alloc _ _ _)).trans (Touch.drew _ _)

theorem que3 {w4 : World} {base q : Nat} (hq : Que w4 base q 0 0 [] [q]) (o0 o1 o2 : Obj) : Que (((w4.alloc o0).alloc o1).alloc o2).drew base q 0 0 [] [q] := hq.keep (touch3 (Touch.refl _ _) o0 o1 o2) (fun k _ h => by cases h)

/-- What lies there behind New. -/
theorem made_rt {w w' : World} {base b g h q T most H : Nat} (bb : base ≤ b) (bg : base ≤ g) (bh : base ≤ h) (hq : Que w' base q 0 0 [] [q])
    (ho : w'.heap[b]? = some (.cells #[.slice (some ⟨g, 0, none⟩) T T, .int .i64 most, .slice (some ⟨h, 0, none⟩) H H, .pointer (some ⟨q, 0, none⟩)] 68 (0, 0)))
    (hg : w'.heap[g]? = some (.cells (madeCells #[.slice none 0 0, .slice none 0 0] (T * 2)) 84 (0, 0))) (hh : w'.heap[h]? = some (.cells (madeCells #[.bool false, .int .i64 0] (H * 2)) 72 (0, 0))) :
    Rts w' base b 0 (sta0 T most H) [b, g, h, q] := by
  refine ⟨g, h, q, [q], fun _ => .slice none 0 0, ⟨bb, bg, bh, by simpa [sta0] using ho, ⟨_, hg, size_madeCells _ _, fun i hi => ?_⟩, ⟨_, hh, by simp [size_madeCells, sta0], fun i hi => ?_⟩, hq, fun i hi => World.ownsRow_nil _ _ _ _, ?_, ?_⟩, ?_⟩
  · simp only [sta0] at hi
    rw [made_two _ _ _ _ hi]; simp
  · simp only [sta0, List.length_replicate] at hi ⊢
    rw [made_two _ _ _ _ hi, hcell_none]
  · intro i j k _ _ e; simp [Value.ownBlock] at e
  · intro i k _ e; simp [Value.ownBlock] at e
  · have : (List.range (T * 2)).filterMap (fun _ => (Value.slice none 0 0).ownBlock) = [] := by simp [Value.ownBlock]
    simp [fp, sta0, Value.ownBlock]

set_option maxHeartbeats 2000000 in
theorem new_in (T most H : Nat) (hT : 1 ≤ T) (hT8 : T ≤ 8) (hm : 1 ≤ most) (hm2 : most ≤ 4096) (hH : H ≤ 1024) (w : World) :
    Calls Tryz.prog 17 #[.int .i64 T, .int .i64 most, .int .i64 H] w fun e w' => ∃ b F, e = .returned (.tuple #[.pointer (some ⟨b, 0, none⟩), .int .i64 0]) ∧ Rts w' w.heap.size b 0 (sta0 T most H) F ∧ Touch [] w w' := by
  have w1 := within_any (T : Int) 1 8 w
  have w2 := within_any (most : Int) 1 4096 w
  have w3 := within_any (H : Int) 0 1024 w
  rw [show decide ((1 : Int) ≤ (T : Int) ∧ (T : Int) ≤ 8) = true by simp; omega] at w1
  rw [show decide ((1 : Int) ≤ (most : Int) ∧ (most : Int) ≤ 4096) = true by simp; omega] at w2
  rw [show decide ((0 : Int) ≤ (H : Int) ∧ (H : Int) ≤ 1024) = true by simp; omega] at w3
  have hq := newintqueue_any 0 (by decide) w
  obtain ⟨i0, hi0, hz0, hz1, hz2⟩ := info_parts Tryz.infoThread
  obtain ⟨i1, hi1, hy0, hy1, hy2⟩ := info_parts Tryz.infoHandle
  have mk1 : ∀ w, (Instr.makeSlice 64 (.int .i64 (T : Int)) (.int .i64 (T : Int))).run Tryz.prog w = .ok (.slice (some ⟨w.heap.size, 0, none⟩) T T) (w.alloc (.cells (madeCells #[.slice none 0 0, .slice none 0 0] (T * 2)) 84)) := fun w => by
    have := run_make (P := Tryz.prog) w 64 84 i0 _ Tryz.underlying64 hi0 hz0 .i64 .i64 (T : Int) (T : Int) (by omega) (Int.le_refl _) (by rw [hz2]; omega) (by omega)
    rw [hz1] at this
    simpa [Value.cells] using this
  have mk2 : ∀ w, (Instr.makeSlice 65 (.int .i64 (H : Int)) (.int .i64 (H : Int))).run Tryz.prog w = .ok (.slice (some ⟨w.heap.size, 0, none⟩) H H) (w.alloc (.cells (madeCells #[.bool false, .int .i64 0] (H * 2)) 72)) := fun w => by
    have := run_make (P := Tryz.prog) w 65 72 i1 _ Tryz.underlying65 hi1 hy0 .i64 .i64 (H : Int) (H : Int) (by omega) (Int.le_refl _) (by rw [hy2]; omega) (by omega)
    rw [hy1] at this
    simpa [Value.cells] using this
  clear hi0 hz0 hz1 hz2 hi1 hy0 hy1 hy2
  go_enter Tryz.func17, Tryz.ntmps17
  go_wp2_with fail
  refine w1.mono ?_
  rintro e w' ⟨rfl, rfl⟩
  go_wp2_with fail
  refine w2.mono ?_
  rintro e w' ⟨rfl, rfl⟩
  go_wp2_with fail
  refine w3.mono ?_
  rintro e w' ⟨rfl, rfl⟩
  go_wp2_with fail
  refine hq.mono ?_
  rintro e w4 ⟨rfl, hQ, ht, hsz⟩
  have HQ : Hid (Que w4 w.heap.size w.heap.size 0 0 [] [w.heap.size]) := hQ
  have Hsz : Hid (w4.heap.size = w.heap.size + 1) := hsz
  have Ht : Hid (Touch [] w w4) := ht
  clear w1 w2 w3 hq hQ hsz ht
  go_wp2
  go_region
  · go_wp2
    go_ret2
    have hh := heap3 w4 (.cells (madeCells #[.slice none 0 0, .slice none 0 0] (T * 2)) 84) (.cells (madeCells #[.bool false, .int .i64 0] (H * 2)) 72) (.cells #[.slice (some ⟨w4.heap.size, 0, none⟩) T T, .int .i64 most, .slice (some ⟨w4.heap.size + 1, 0, none⟩) H H, .pointer (some ⟨w.heap.size, 0, none⟩)] 68)
    exact ⟨_, _, rfl, made_rt (w := w) (by have := Hsz.out; omega) (by have := Hsz.out; omega) (by have := Hsz.out; omega) (que3 HQ.out _ _ _) hh.2.2 hh.1 hh.2.1, touch3 Ht.out _ _ _⟩
  · go_wp2
    go_ret2
    have hh := heap3 w4 (.cells (madeCells #[.bool false, .int .i64 0] (H * 2)) 72) (.cells (madeCells #[.slice none 0 0, .slice none 0 0] (T * 2)) 84) (.cells #[.slice (some ⟨w4.heap.size + 1, 0, none⟩) T T, .int .i64 most, .slice (some ⟨w4.heap.size, 0, none⟩) H H, .pointer (some ⟨w.heap.size, 0, none⟩)] 68)
    exact ⟨_, _, rfl, made_rt (w := w) (by have := Hsz.out; omega) (by have := Hsz.out; omega) (by have := Hsz.out; omega) (que3 HQ.out _ _ _) hh.2.2 hh.2.1 hh.1, touch3 Ht.out _ _ _⟩

/-- Numbers that may be. -/
def Mays (a b c : Int) : Prop := 1 ≤ a ∧ a ≤ 8 ∧ 1 ≤ b ∧ b ≤ 4096 ∧ 0 ≤ c ∧ c ≤ 1024

set_option maxHeartbeats 1000000 in
theorem new_out (a b c : Int) (h : ¬ Mays a b c) (w : World) :
    Calls Tryz.prog 17 #[.int .i64 a, .int .i64 b, .int .i64 c] w fun e w' => e = .returned (.tuple #[.pointer none, .int .i64 50]) ∧ w = w' := by
  have w1 := within_any a 1 8 w
  have w2 := within_any b 1 4096 w
  have w3 := within_any c 0 1024 w
  by_cases h1 : 1 ≤ a ∧ a ≤ 8
  · rw [decide_eq_true h1] at w1
    by_cases h2 : 1 ≤ b ∧ b ≤ 4096
    · rw [decide_eq_true h2] at w2
      have h3 : ¬ (0 ≤ c ∧ c ≤ 1024) := fun h3 => h ⟨h1.1, h1.2, h2.1, h2.2, h3.1, h3.2⟩
      rw [decide_eq_false h3] at w3
      clear h h1 h2 h3
      go_enter Tryz.func17, Tryz.ntmps17
      go_wp2_with fail
      refine w1.mono ?_
      rintro e w' ⟨rfl, rfl⟩
      go_wp2_with fail
      refine w2.mono ?_
      rintro e w' ⟨rfl, rfl⟩
      go_wp2_with fail
      refine w3.mono ?_
      rintro e w' ⟨rfl, rfl⟩
      go_wp2
      go_ret2
      exact ⟨rfl, rfl⟩
    · rw [decide_eq_false h2] at w2
      clear h h1 h2 w3
      go_enter Tryz.func17, Tryz.ntmps17
      go_wp2_with fail
      refine w1.mono ?_
      rintro e w' ⟨rfl, rfl⟩
      go_wp2_with fail
      refine w2.mono ?_
      rintro e w' ⟨rfl, rfl⟩
      go_wp2
      go_ret2
      exact ⟨rfl, rfl⟩
  · rw [decide_eq_false h1] at w1
    clear h h1 w2 w3
    go_enter Tryz.func17, Tryz.ntmps17
    go_wp2_with fail
    refine w1.mono ?_
    rintro e w' ⟨rfl, rfl⟩
    go_wp2
    go_ret2
    exact ⟨rfl, rfl⟩

end Go.Proofs.YtdlannfjnljbcaaGreatDoor

/-
  Zeros appended to a row of one's own; Push.
-/
set_option linter.unusedVariables false
namespace Go.Proofs.YtdlannfjnljbcaaGreatDoor
open Go.RowKit

theorem zeroCells_one (z : Value) (k : Nat) : Builtin.zeroCells #[z] k = (List.replicate k z).toArray := by
  apply Array.ext'
  apply List.ext_getElem?
  intro i
  by_cases h : i < k
  · simp [Builtin.zeroCells, h, Nat.mod_one]
  · simp [Builtin.zeroCells, h]

/-- k zeros at the end of a row of numbers. -/
theorem run_zeros_own (w : World) (base t tn ty e : Nat) (i : TypeInfo) (z : Value) (bytes : Nat) (kq kn : IntKind) (ht : Tryz.prog.underlying t = some (.slice e)) (htn : Tryz.prog.underlying tn = some (.int kn)) (hi : Tryz.prog.info? e = some i) (hz : i.zero = some z)
    (hsize : i.size = 1) (hby : i.bytes = bytes) (hzs : z.cells = #[z]) (hz1 : z.oneCell' = true)
    (v : Value) (n : Nat) (xs : List Value) (hown : w.ownsRow base e 1 v n xs) (k : Nat) (h0 : 0 < k)
    (h63 : n + k ≤ maxLen) (hbytes : (n + k) * bytes ≤ 140737488355328) (hbase : base ≤ w.heap.size) :
    ∃ v' w', (Builtin.append_ #[t, tn] ty #[v, .int kq k]).run Tryz.prog w = .ok v' w' ∧ w'.ownsRow base e 1 v' (n + k) (xs ++ List.replicate k z) ∧ w.grownBy w' v.ownBlock ∧
      (v'.ownBlock = v.ownBlock ∨ v'.ownBlock = some w.heap.size) := by
  have hsmall : n + k ≤ 9223372036854775807 := by simp only [maxLen] at h63; omega
  have hxl : xs.length = n := by simpa using hown.1
  have hkb : k * bytes ≤ 140737488355328 := Nat.le_trans (Nat.mul_le_mul_right _ (by omega)) hbytes
  have hlen : (xs ++ List.replicate k z).length = (n + k) * 1 := by simp [hxl]
  have grown : ∀ (old : Nat), old < n + k → ∀ (row : Option Nat),
      (w.drew.alloc (.cells (xs.toArray ++ Builtin.zeroCells z.cells k ++ Builtin.zeroCells z.cells (grownCap w (n + k) old e - (n + k))) e)).ownsRow base e 1
        (.slice (some ⟨w.heap.size, 0, none⟩) (n + k) (grownCap w (n + k) old e)) (n + k) (xs ++ List.replicate k z) ∧
      w.grownBy (w.drew.alloc (.cells (xs.toArray ++ Builtin.zeroCells z.cells k ++ Builtin.zeroCells z.cells (grownCap w (n + k) old e - (n + k))) e)) row := by
    intro old ho row
    have hge := grownCap_ge w (n + k) old e
    have hcm : grownCap w (n + k) old e ≤ maxLen := grownCap_le_maxLen w (n + k) old e h63
    refine ⟨⟨hlen, .inr ⟨w.heap.size, _, _, rfl, hbase, heap_alloc_new w.drew _, hge, hcm, ?_, ?_⟩⟩, ⟨rfl, rfl, rfl, by simp, fun k hk _ => Below.heap_alloc w.drew _ k hk⟩⟩
    · rw [hzs]; simp only [Array.size_append, List.size_toArray, size_zeroCells, hxl]
      simp; omega
    · rw [hzs, zeroCells_one, ← hlen]
      simp only [Array.toList_append]
      exact List.take_left
  rcases hown.2 with ⟨rfl, rfl⟩ | ⟨g, cap, cur, rfl, hbg, hg, hnc, hcm, hcs, htake⟩
  · have hx : xs = [] := List.eq_nil_of_length_eq_zero hxl
    subst hx
    have hr := Lib.run_append_nil_zeros (P := Tryz.prog) w t tn ty e i z kq kn ht htn hi hz k h0 (by omega) (by omega) (by rw [hby]; omega)
    have hgr := grown 0 (by omega) (Value.ownBlock (.slice none 0 0))
    simp only [Nat.zero_add, List.nil_append, Array.empty_append] at hgr ⊢
    exact ⟨_, _, hr, hgr.1, hgr.2, Or.inr rfl⟩
  · by_cases hroom : n + k ≤ cap
    · have hfit : n * 1 + (List.replicate k z).length ≤ cur.size := by simp; omega
      have hst := run_storeCells_at Tryz.prog g n e (List.replicate k z) 0 cur w hg (by simp; omega) (by intro u hu; rw [List.eq_of_mem_replicate hu]; exact hz1)
      simp only [Nat.add_zero] at hst
      have hw : IntKind.i64.wrap (k : Int) = k := by rw [IntKind.wrap_i64]; omega
      have h48i : ¬ (281474976710656 < (k : Int) * (i.bytes : Int)) := by
        rw [← Int.natCast_mul, hby]
        omega
      have hneg : ¬ ((k : Int) < 0) := by omega
      have hk : k ≠ 0 := by omega
      have hr : (Builtin.append_ #[t, tn] ty #[.slice (some ⟨g, 0, none⟩) n cap, .int kq k]).run Tryz.prog w =
          .ok (.slice (some ⟨g, 0, none⟩) (n + k) cap) (w.setRow g (cur.toList.take n ++ List.replicate k z ++ cur.toList.drop (n + (List.replicate k z).length)).toArray) := by
        simp [Builtin.append_, run_underlying ht, run_underlying htn, sizeOf, typeInfo, zeroValue, hi, hz, hsize, asInt, asIntOf, hw, hneg, hk, h48i, hroom, hzs, zeroCells_one, Addr.add_lit, hst]
      refine ⟨_, _, hr, ⟨hlen, .inr ⟨g, cap, _, rfl, hbg, setRow_heap w g cur _ e _ hg, hroom, hcm, ?_, ?_⟩⟩, ⟨rfl, rfl, rfl, by simp, fun k _ hk => setRow_other w g k _ (fun e => hk (by simp [Value.ownBlock, e]))⟩, Or.inl rfl⟩
      · simp
        omega
      · rw [← hlen]
        rw [Nat.mul_one] at htake
        simp only [htake]
        exact List.take_left
    · have hold : (Builtin.firstCells i.size n (.slice (some ⟨g, 0, none⟩) n cap)).run Tryz.prog w.drew = .ok xs.toArray w.drew := by
        have holds : ∀ j u, xs[j]? = some u → w.drew.cell? ((⟨g, 0, none⟩ : Addr).add j) = some u := hown.cells (g := g) rfl
        exact run_firstCells_some (P := Tryz.prog) w.drew i.size n ⟨g, 0, none⟩ n cap xs (by rw [hsize]; simpa using hxl) holds
      have hr := Lib.run_append_grow_zeros (P := Tryz.prog) w t tn ty e i z kq kn ht htn hi hz (some ⟨g, 0, none⟩) n cap xs hold k h0 (by omega) (by omega) (by omega) (by rw [hby]; omega) (by rw [hby]; exact growslice_fits (by omega) hbytes)
      have hgr := grown cap (by omega) (Value.ownBlock (.slice (some ⟨g, 0, none⟩) n cap))
      exact ⟨_, _, hr, hgr.1, hgr.2, Or.inr rfl⟩

end Go.Proofs.YtdlannfjnljbcaaGreatDoor

