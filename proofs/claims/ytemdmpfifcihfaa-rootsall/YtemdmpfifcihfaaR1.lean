/-
  Roots in memory.
-/
import Derived.Test.YtemdmpfifcihfaaRTa
import Derived.Handy
set_option linter.unusedVariables false
namespace Go.Proofs.Ytemdmpfifcihfaa
open Go.RowKit

/-- A function turned at one place. -/
def upd {α : Type} (f : Nat → α) (i : Nat) (x : α) : Nat → α := fun j => if j = i then x else f j

theorem upd_same {α : Type} (f : Nat → α) (i : Nat) (x : α) : upd f i x i = x := by simp [upd]
theorem upd_ne {α : Type} (f : Nat → α) {i j : Nat} (x : α) (h : j ≠ i) : upd f i x j = f j := by simp [upd, h]

/-- What roots hold: T threads (row t * 2: the sizes of thread t's frames, row t * 2 + 1: its slots), most slots a thread, the handles, the queue. -/
structure Sta where
  T : Nat
  most : Nat
  rw : Nat → List Int
  hs : List (Option Int)
  qs : List Int

/-- The cells of the handles. -/
def hcell (hs : List (Option Int)) (j : Nat) : Value :=
  match hs[j / 2]? with
  | some (some x) => if j % 2 = 0 then .bool true else .int .i64 x
  | _ => if j % 2 = 0 then .bool false else .int .i64 0

/-- Roots in block b; g: its threads, h: its handles, q: its queue (of at most N things in its array, FQ its blocks), vs: the threads' rows. -/
structure Rt (w : World) (base b g h q N : Nat) (FQ : List Nat) (vs : Nat → Value) (S : Sta) : Prop where
  bb : base ≤ b
  bg : base ≤ g
  bh : base ≤ h
  own : w.heap[b]? = some (.cells #[.slice (some ⟨g, 0, none⟩) S.T S.T, .int .i64 S.most, .slice (some ⟨h, 0, none⟩) S.hs.length S.hs.length, .pointer (some ⟨q, 0, none⟩)] 71 (0, 0))
  thr : w.rowIs g 90 (S.T * 2) vs
  hnd : w.rowIs h 78 (S.hs.length * 2) (hcell S.hs)
  que : Que w base q 0 N S.qs FQ
  row : ∀ i, i < S.T * 2 → w.ownsRow base 3 1 (vs i) (S.rw i).length (ints (S.rw i))
  ap : ∀ i j k, i < S.T * 2 → j < S.T * 2 → (vs i).ownBlock = some k → (vs j).ownBlock = some k → i = j
  apq : ∀ i k, i < S.T * 2 → (vs i).ownBlock = some k → k ∉ FQ

/-- All blocks. -/
def fp (b g h : Nat) (FQ : List Nat) (T : Nat) (vs : Nat → Value) : List Nat := b :: g :: h :: (FQ ++ (List.range (T * 2)).filterMap fun i => (vs i).ownBlock)

theorem mem_fp {b g h : Nat} {FQ : List Nat} {T : Nat} {vs : Nat → Value} {k : Nat} : k ∈ fp b g h FQ T vs ↔ k = b ∨ k = g ∨ k = h ∨ k ∈ FQ ∨ ∃ i, i < T * 2 ∧ (vs i).ownBlock = some k := by
  simp [fp]

theorem own_keep {w w' : World} {base n e size k : Nat} {v : Value} {xs : List Value} (h : w.ownsRow base e size v n xs) (hk : ∀ k, v.ownBlock = some k → w'.heap[k]? = w.heap[k]?) : w'.ownsRow base e size v n xs := by
  refine ⟨h.1, ?_⟩
  rcases h.2 with hn | ⟨g, cap, cur, rfl, hb', hg, rest⟩
  · exact .inl hn
  · refine .inr ⟨g, cap, cur, rfl, hb', ?_, rest⟩
    rw [hk g rfl]; exact hg

theorem Que.keep2 {W W' : World} {base b N : Nat} {most : Int} {xs : List Int} {F : List Nat} (h : Que W base b most N xs F) (hk : ∀ k, k ∈ F → W'.heap[k]? = W.heap[k]?) : Que W' base b most N xs F := by
  obtain ⟨v, ts, f, hh, hb, hr, h1, h2, h3, rfl⟩ := h
  refine ⟨v, ts, f, ?_, hb, own_keep (k := 0) hr (fun k e => hk k (by simp [e])), h1, h2, h3, rfl⟩
  rw [hk b (by simp)]; exact hh

namespace Rt
variable {w w' : World} {base b g h q N : Nat} {FQ : List Nat} {vs : Nat → Value} {S : Sta}

theorem mem (H : Rt w base b g h q N FQ vs S) : ∀ k, k ∈ fp b g h FQ S.T vs → base ≤ k ∧ k < w.heap.size := by
  intro k hk
  rcases mem_fp.1 hk with rfl | rfl | rfl | hk | ⟨i, hi, hv⟩
  · exact ⟨H.bb, heap_lt H.own⟩
  · exact ⟨H.bg, H.thr.lt⟩
  · exact ⟨H.bh, H.hnd.lt⟩
  · exact H.que.mem k hk
  · exact (H.row i hi).lt k hv

theorem keep (H : Rt w base b g h q N FQ vs S) (hk : ∀ k, k ∈ fp b g h FQ S.T vs → w'.heap[k]? = w.heap[k]?) : Rt w' base b g h q N FQ vs S :=
  ⟨H.bb, H.bg, H.bh, (hk b (by simp [mem_fp])).trans H.own, H.thr.of_block (hk g (by simp [mem_fp])), H.hnd.of_block (hk h (by simp [mem_fp])),
    H.que.keep2 (fun k e => hk k (by simp [mem_fp, e])), fun i hi => own_keep (k := 0) (H.row i hi) (fun k e => hk k (mem_fp.2 (.inr (.inr (.inr (.inr ⟨i, hi, e⟩)))))), H.ap, H.apq⟩

theorem touch (H : Rt w base b g h q N FQ vs S) {G : List Nat} (ht : Touch G w w') (ha : Apart (fp b g h FQ S.T vs) G) : Rt w' base b g h q N FQ vs S :=
  H.keep fun k hk => ht.block k (H.mem k hk).2 (ha k hk)

theorem b_ne_g (H : Rt w base b g h q N FQ vs S) : b ≠ g := by
  rintro rfl
  obtain ⟨c, hc, -⟩ := H.thr
  have := H.own.symm.trans hc
  simp at this

theorem b_ne_h (H : Rt w base b g h q N FQ vs S) : b ≠ h := by
  rintro rfl
  obtain ⟨c, hc, -⟩ := H.hnd
  have := H.own.symm.trans hc
  simp at this

theorem g_ne_h (H : Rt w base b g h q N FQ vs S) : g ≠ h := by
  rintro rfl
  obtain ⟨c, hc, -⟩ := H.hnd
  obtain ⟨d, hd, -⟩ := H.thr
  have := hd.symm.trans hc
  simp at this

theorem que_type (H : Rt w base b g h q N FQ vs S) {k : Nat} (hk : k ∈ FQ) : ∃ c t, w.heap[k]? = some (.cells c t (0, 0)) ∧ (t = 108 ∨ t = 3) := by
  obtain ⟨v, ts, f, hh, hb, hr, h1, h2, h3, rfl⟩ := H.que
  rcases List.mem_cons.1 hk with rfl | hk
  · exact ⟨_, _, hh, .inl rfl⟩
  · rcases hr.2 with ⟨rfl, _⟩ | ⟨g', cap, cur, rfl, hb', hg, rest⟩
    · simp [Value.ownBlock] at hk
    · simp [Value.ownBlock] at hk; subst hk; exact ⟨_, _, hg, .inr rfl⟩

theorem row_type (H : Rt w base b g h q N FQ vs S) {i k : Nat} (hi : i < S.T * 2) (hk : (vs i).ownBlock = some k) : ∃ c, w.heap[k]? = some (.cells c 3 (0, 0)) := by
  rcases (H.row i hi).2 with ⟨e, _⟩ | ⟨g', cap, cur, e, hb', hg, rest⟩
  · rw [e] at hk; simp [Value.ownBlock] at hk
  · rw [e] at hk; simp [Value.ownBlock] at hk; subst hk; exact ⟨_, hg⟩

theorem b_nq (H : Rt w base b g h q N FQ vs S) : b ∉ FQ := fun hk => by
  obtain ⟨c, t, hc, ht⟩ := H.que_type hk
  have := H.own.symm.trans hc
  simp at this
  rcases ht with rfl | rfl <;> simp at this

theorem g_nq (H : Rt w base b g h q N FQ vs S) : g ∉ FQ := fun hk => by
  obtain ⟨c, t, hc, ht⟩ := H.que_type hk
  obtain ⟨d, hd, -⟩ := H.thr
  have := hd.symm.trans hc
  simp at this
  rcases ht with rfl | rfl <;> simp at this

theorem h_nq (H : Rt w base b g h q N FQ vs S) : h ∉ FQ := fun hk => by
  obtain ⟨c, t, hc, ht⟩ := H.que_type hk
  obtain ⟨d, hd, -⟩ := H.hnd
  have := hd.symm.trans hc
  simp at this
  rcases ht with rfl | rfl <;> simp at this

theorem row_ne_b (H : Rt w base b g h q N FQ vs S) {i k : Nat} (hi : i < S.T * 2) (hk : (vs i).ownBlock = some k) : k ≠ b := by
  rintro rfl
  obtain ⟨c, hc⟩ := H.row_type hi hk
  have := H.own.symm.trans hc
  simp at this

theorem row_ne_g (H : Rt w base b g h q N FQ vs S) {i k : Nat} (hi : i < S.T * 2) (hk : (vs i).ownBlock = some k) : k ≠ g := by
  rintro rfl
  obtain ⟨c, hc⟩ := H.row_type hi hk
  obtain ⟨d, hd, -⟩ := H.thr
  have := hd.symm.trans hc
  simp at this

theorem row_ne_h (H : Rt w base b g h q N FQ vs S) {i k : Nat} (hi : i < S.T * 2) (hk : (vs i).ownBlock = some k) : k ≠ h := by
  rintro rfl
  obtain ⟨c, hc⟩ := H.row_type hi hk
  obtain ⟨d, hd, -⟩ := H.hnd
  have := hd.symm.trans hc
  simp at this

/-- A thread's row becomes another one. -/
theorem setRow (H : Rt w base b g h q N FQ vs S) {i : Nat} (hi : i < S.T * 2) {v' : Value} {l' : List Int} (ht : Touch (g :: (vs i).ownBlock.toList) w w')
    (hg : w'.rowIs g 90 (S.T * 2) (upd vs i v')) (hr : w'.ownsRow base 3 1 v' l'.length (ints l')) (hat : v'.ownBlock = (vs i).ownBlock ∨ ∀ k, v'.ownBlock = some k → w.heap.size ≤ k) :
    Rt w' base b g h q N FQ (upd vs i v') { S with rw := upd S.rw i l' } := by
  have blk : ∀ k, k < w.heap.size → k ≠ g → (vs i).ownBlock ≠ some k → w'.heap[k]? = w.heap[k]? := fun k hk h1 h2 => ht.block k hk (by simp [h1]; exact h2)
  have old : ∀ j k, j < S.T * 2 → j ≠ i → (vs j).ownBlock = some k → w'.heap[k]? = w.heap[k]? := fun j k hj hji hk =>
    blk k ((H.row j hj).lt k hk).2 (H.row_ne_g hj hk) (fun e => hji (H.ap j i k hj hi hk e))
  have newq : ∀ k, v'.ownBlock = some k → k ∉ FQ := fun k hk hm => by
    rcases hat with e | e
    · exact H.apq i k hi (e ▸ hk) hm
    · have := e k hk; have := (H.que.mem k hm).2; omega
  have newr : ∀ j k, j < S.T * 2 → j ≠ i → v'.ownBlock = some k → (vs j).ownBlock ≠ some k := fun j k hj hji hk hm => by
    rcases hat with e | e
    · exact hji (H.ap j i k hj hi hm (e ▸ hk))
    · have := e k hk; have := ((H.row j hj).lt k hm).2; omega
  refine ⟨H.bb, H.bg, H.bh, ?_, hg, H.hnd.of_block ?_, H.que.keep2 ?_, fun j hj => ?_, fun j j' k hj hj' hk hk' => ?_, fun j k hj hk => ?_⟩
  · exact (blk b (heap_lt H.own) H.b_ne_g (fun e => H.row_ne_b hi e rfl)).trans H.own
  · exact blk h H.hnd.lt (Ne.symm H.g_ne_h) (fun e => H.row_ne_h hi e rfl)
  · exact fun k hk => blk k (H.que.mem k hk).2 (fun e => H.g_nq (e ▸ hk)) (fun e => H.apq i k hi e hk)
  · by_cases e : j = i
    · subst e
      simp only [upd_same]
      exact hr
    · simp only [upd_ne _ _ e]
      exact own_keep (k := 0) (H.row j hj) (fun k hk => old j k hj e hk)
  · by_cases e : j = i
    · by_cases e' : j' = i
      · rw [e, e']
      · subst e
        rw [upd_same] at hk
        rw [upd_ne _ _ e'] at hk'
        exact absurd hk' (newr j' k hj' e' hk)
    · by_cases e' : j' = i
      · subst e'
        rw [upd_same] at hk'
        rw [upd_ne _ _ e] at hk
        exact absurd hk (newr j k hj e hk')
      · rw [upd_ne _ _ e] at hk
        rw [upd_ne _ _ e'] at hk'
        exact H.ap j j' k hj hj' hk hk'
  · by_cases e : j = i
    · subst e
      rw [upd_same] at hk
      exact newq k hk
    · rw [upd_ne _ _ e] at hk
      exact H.apq j k hj hk

/-- A thread's row is written in its place. -/
theorem setIn (H : Rt w base b g h q N FQ vs S) {i : Nat} (hi : i < S.T * 2) {l' : List Int} (ht : Touch ((vs i).ownBlock.toList) w w') (hl : l'.length = (S.rw i).length)
    (hr : w'.ownsRow base 3 1 (vs i) l'.length (ints l')) : Rt w' base b g h q N FQ vs { S with rw := upd S.rw i l' } := by
  have hg : w'.heap[g]? = w.heap[g]? := ht.block g H.thr.lt (fun hm => H.row_ne_g hi (by simpa using hm) rfl)
  have e : upd vs i (vs i) = vs := by funext j; by_cases e : j = i <;> simp [upd, e]
  have := H.setRow hi (ht.mono (fun k hk => .inl (by simp [hk]))) (v' := vs i) (by rw [e]; exact H.thr.of_block hg) hr (.inl rfl)
  rw [e] at this
  exact this

/-- The queue becomes another one. -/
theorem setQue (H : Rt w base b g h q N FQ vs S) {N' : Nat} {FQ' : List Nat} {qs' : List Int} (ht : Touch FQ w w') (hq : Que w' base q 0 N' qs' FQ') (hn : Newer w.heap.size FQ FQ') :
    Rt w' base b g h q N' FQ' vs { S with qs := qs' } := by
  have blk : ∀ k, k < w.heap.size → k ∉ FQ → w'.heap[k]? = w.heap[k]? := ht.block
  refine ⟨H.bb, H.bg, H.bh, (blk b (heap_lt H.own) H.b_nq).trans H.own, H.thr.of_block (blk g H.thr.lt H.g_nq), H.hnd.of_block (blk h H.hnd.lt H.h_nq), hq,
    fun i hi => own_keep (k := 0) (H.row i hi) (fun k e => blk k ((H.row i hi).lt k e).2 (H.apq i k hi e)), H.ap, fun i k hi e hm => ?_⟩
  rcases hn k hm with h1 | h1
  · exact H.apq i k hi e h1
  · have := ((H.row i hi).lt k e).2; omega

/-- The handles become others. -/
theorem setHnd (H : Rt w base b g h q N FQ vs S) {hs' : List (Option Int)} (ht : Touch [h] w w') (hl : hs'.length = S.hs.length) (hh : w'.rowIs h 78 (S.hs.length * 2) (hcell hs')) :
    Rt w' base b g h q N FQ vs { S with hs := hs' } := by
  have blk : ∀ k, k < w.heap.size → k ≠ h → w'.heap[k]? = w.heap[k]? := fun k hk hn => ht.block k hk (by simpa using hn)
  refine ⟨H.bb, H.bg, H.bh, ?_, H.thr.of_block (blk g H.thr.lt H.g_ne_h), by simpa only [hl] using hh, H.que.keep2 (fun k hk => blk k (H.que.mem k hk).2 (fun e => H.h_nq (e ▸ hk))),
    fun i hi => own_keep (k := 0) (H.row i hi) (fun k e => blk k ((H.row i hi).lt k e).2 (H.row_ne_h hi e)), H.ap, H.apq⟩
  simp only [hl]
  exact (blk b (heap_lt H.own) H.b_ne_h).trans H.own

end Rt

end Go.Proofs.Ytemdmpfifcihfaa
