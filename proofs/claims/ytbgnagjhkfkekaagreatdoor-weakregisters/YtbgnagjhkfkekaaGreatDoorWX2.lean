/-
  WeakRegisters: all that there is beside the book: arena, registry, the early iterator, the list that is wanted.
-/
import Derived.Test.YtbgnagjhkfkekaaGreatDoorWX1
import Derived.Test.YtbgnagjhkfkekaaGreatDoorWR7
import Derived.Test.YtbgnagjhkfkekaaGreatDoorPX1
set_option linter.unusedVariables false
set_option maxRecDepth 20000
namespace Go.Proofs.YtbgnagjhkfkekaaGreatDoor
open Go.RowKit Go.Shelf

/-- Arena, registry (list l), early, want (list m). -/
structure Wg (wF : World) (n1 b g rb mb mg bx N : Nat) (c : Cfg) (L : List LT) (th : List Tng) (lv wv : Value) (l m : List Int) (w : World) : Prop where
  bq : Bq wF n1 w b g c (tps c L) false (wlay L) th
  rg : ∃ M, Rg w n1 rb b lv l mb mg N M
  bx_ : Boxed w bx 33 (.pointer (some ⟨rb, 0, none⟩))
  wn : w.ownsRow n1 3 1 wv m.length (ints m)
  far : ∀ q, wv.ownBlock = some q → lv.ownBlock ≠ some q
  lx : n1 ≤ bx
  gg : mg ≠ g

def Wf (b g rb mb mg bx : Nat) (lv wv : Value) : List Nat := b :: g :: rb :: mb :: mg :: bx :: (lv.ownBlock.toList ++ wv.ownBlock.toList)

section
variable {wF w w' : World} {n1 b g rb mb mg bx N bb nl : Nat} {c : Cfg} {L : List LT} {th : List Tng} {lv wv : Value} {l m : List Int} {Ls : List (Option (Value × List Int))}

theorem mem_wf {q : Nat} : q ∈ Wf b g rb mb mg bx lv wv ↔ q = b ∨ q = g ∨ q = rb ∨ q = mb ∨ q = mg ∨ q = bx ∨ lv.ownBlock = some q ∨ wv.ownBlock = some q := by
  simp [Wf]

theorem Wg.lt (h : Wg wF n1 b g rb mb mg bx N c L th lv wv l m w) (q : Nat) (hq : q ∈ Wf b g rb mb mg bx lv wv) : q < w.heap.size := by
  obtain ⟨M, hR⟩ := h.rg
  rcases mem_wf.1 hq with e | e | e | e | e | e | e | e
  · rw [e]; exact h.bq.ax.ar.own.lt
  · rw [e]; exact h.bq.ax.ar.row.lt
  · rw [e]; exact hR.lt
  · rw [e]; exact hR.mp.own.lt
  · rw [e]; exact hR.mp.row.lt
  · rw [e]; exact h.bx_.lt
  · exact row_lt hR.row q e
  · exact row_lt h.wn q e

theorem Wg.ge (h : Wg wF n1 b g rb mb mg bx N c L th lv wv l m w) (q : Nat) (hq : q ∈ Wf b g rb mb mg bx lv wv) : n1 ≤ q := by
  obtain ⟨M, hR⟩ := h.rg
  rcases mem_wf.1 hq with e | e | e | e | e | e | e | e
  · rw [e]; exact h.bq.lb
  · rw [e]; exact h.bq.lg
  · rw [e]; exact hR.lr
  · rw [e]; exact hR.lm
  · rw [e]; exact hR.lg
  · rw [e]; exact h.lx
  · exact (own_cells hR.row q e).elim (fun _ h => h.2)
  · exact (own_cells h.wn q e).elim (fun _ h => h.2)

theorem Wg.keep (h : Wg wF n1 b g rb mb mg bx N c L th lv wv l m w) {G : List Nat} (t : Touch G w w') (hn : ∀ q, q ∈ Wf b g rb mb mg bx lv wv → q ∉ G) (hG : ∀ q, q ∈ G → n1 ≤ q) : Wg wF n1 b g rb mb mg bx N c L th lv wv l m w' := by
  obtain ⟨M, hR⟩ := h.rg
  have hb : n1 ≤ w.heap.size := Nat.le_trans h.bq.lb (Nat.le_of_lt h.bq.ax.ar.own.lt)
  refine ⟨⟨h.bq.ax.touch t (hn b (mem_wf.2 (by simp))) (hn g (mem_wf.2 (by simp))) (fun hm => ?_) (fun hm => ?_), h.bq.be.trans (t.below hb hG), h.bq.lb, h.bq.lg, h.bq.t0, h.bq.t1⟩, ⟨M, hR.touch t (hn rb (mem_wf.2 (by simp))) (hn mb (mem_wf.2 (by simp))) (hn mg (mem_wf.2 (by simp))) (fun q hq => hn q (mem_wf.2 (by simp [hq])))⟩, (t.block bx h.bx_.lt (hn bx (mem_wf.2 (by simp)))).trans h.bx_, row_keep h.wn (fun q hq => t.block q (row_lt h.wn q hq) (hn q (mem_wf.2 (by simp [hq])))), h.far, h.lx, h.gg⟩
  · have := hG _ hm; have := h.bq.t0; omega
  · have := hG _ hm; have := h.bq.t1; omega

theorem Wg.stq : Stq n1 (Wf b g rb mb mg bx lv wv) (Wg wF n1 b g rb mb mg bx N c L th lv wv l m) :=
  ⟨fun w w' G h t h1 h2 => h.keep t h1 h2, fun w h q hq => h.lt q hq⟩

/-- The whole state between two steps of the law's loop. -/
abbrev Pw (wF w : World) (n1 b g rb mb mg bx N bb nl : Nat) (c : Cfg) (L : List LT) (th : List Tng) (lv wv : Value) (l m : List Int) (Ls : List (Option (Value × List Int))) : Prop :=
  Px wF w n1 bb nl (Wf b g rb mb mg bx lv wv) (Wg wF n1 b g rb mb mg bx N c L th lv wv l m) Ls

/-- Blocks of the registry's memory hold no numbers of one's own lists. -/
theorem Wg.cellsNe (h : Wg wF n1 b g rb mb mg bx N c L th lv wv l m w) {q : Nat} {cs : Array Value} (hq : w.heap[q]? = some (.cells cs 3 (0, 0))) : q ≠ b ∧ q ≠ g ∧ q ≠ rb ∧ q ≠ mb ∧ q ≠ mg ∧ q ≠ bx := by
  obtain ⟨M, hR⟩ := h.rg
  obtain ⟨⟨gs, hgs⟩, bs, hbs⟩ := h.bq.ax.ar.rowTy
  obtain ⟨c1, h1, -, -⟩ := hR.mp.own
  obtain ⟨c2, h2, -, -⟩ := hR.mp.row
  have h3 := hR.own
  have h4 : w.heap[bx]? = _ := h.bx_
  refine ⟨fun e => ?_, fun e => ?_, fun e => ?_, fun e => ?_, fun e => ?_, fun e => ?_⟩
  · rw [e, hbs] at hq; simp at hq
  · rw [e, hgs] at hq; simp at hq
  · rw [e, h3] at hq; simp at hq
  · rw [e, h1] at hq; simp at hq
  · rw [e, h2] at hq; simp at hq
  · rw [e, h4] at hq; simp at hq

/-- One more in the list that is wanted. -/
theorem Pw.app (h : Pw wF w n1 b g rb mb mg bx N bb nl c L th lv wv l m Ls) {w4 : World} {tmp : Obj} {v' : Value} {a : Int} (hown : w4.ownsRow n1 3 1 v' (m.length + 1) (ints m ++ [.int .i64 a])) (hgrow : (w.alloc tmp).grownBy w4 wv.ownBlock) (hat : v'.ownBlock = wv.ownBlock ∨ v'.ownBlock = some (w.alloc tmp).heap.size) : Pw wF w4 n1 b g rb mb mg bx N bb nl c L th lv v' l (m ++ [a]) Ls := by
  have hp := h.p
  obtain ⟨M, hR⟩ := hp.rg
  have t2 : Touch wv.ownBlock.toList w w4 := ⟨hgrow.os, hgrow.tape, hgrow.output, by have := hgrow.size; simp at this; omega, fun k hk hn => (hgrow.block k (by simp; omega) (fun e => hn (by rw [Option.mem_toList]; exact e.symm))).trans (Below.heap_alloc _ _ _ hk)⟩
  have hG : ∀ q, q ∈ wv.ownBlock.toList → n1 ≤ q := fun q hq => (own_cells hp.wn q (Option.mem_toList.1 hq)).elim (fun _ h => h.2)
  have hne : ∀ q, q ∈ wv.ownBlock.toList → q ≠ b ∧ q ≠ g ∧ q ≠ rb ∧ q ≠ mb ∧ q ≠ mg ∧ q ≠ bx := fun q hq => by
    obtain ⟨cs, hc, -⟩ := own_cells hp.wn q (Option.mem_toList.1 hq)
    exact hp.cellsNe hc
  have hb : n1 ≤ w.heap.size := Nat.le_trans hp.bq.lb (Nat.le_of_lt hp.bq.ax.ar.own.lt)
  have nb : b ∉ wv.ownBlock.toList := fun hm => (hne b hm).1 rfl
  have ng : g ∉ wv.ownBlock.toList := fun hm => (hne g hm).2.1 rfl
  have hW : Wg wF n1 b g rb mb mg bx N c L th lv v' l (m ++ [a]) w4 := by
    refine ⟨⟨hp.bq.ax.touch t2 nb ng (fun hm => ?_) (fun hm => ?_), hp.bq.be.trans (t2.below hb hG), hp.bq.lb, hp.bq.lg, hp.bq.t0, hp.bq.t1⟩, ⟨M, hR.touch t2 (fun hm => (hne rb hm).2.2.1 rfl) (fun hm => (hne mb hm).2.2.2.1 rfl) (fun hm => (hne mg hm).2.2.2.2.1 rfl) (fun q hq hm => hp.far q (Option.mem_toList.1 hm) hq)⟩, (t2.block bx hp.bx_.lt (fun hm => (hne bx hm).2.2.2.2.2 rfl)).trans hp.bx_, ?_, fun q hq e => ?_, hp.lx, hp.gg⟩
    · have := hG _ hm; have := hp.bq.t0; omega
    · have := hG _ hm; have := hp.bq.t1; omega
    · simpa [ints] using hown
    · rcases hat with e9 | e9
      · exact hp.far q (e9 ▸ hq) e
      · rw [e9] at hq
        have := row_lt hR.row q e
        simp at hq
        omega
  refine h.step Wg.stq hW ((Touch.refl _ w).then t2 (fun q hq => .inl (mem_wf.2 (by simp [Option.mem_toList.1 hq])))) (fun q hq => ?_)
  rcases mem_wf.1 hq with e | e | e | e | e | e | e | e
  · exact .inl (mem_wf.2 (by simp [e]))
  · exact .inl (mem_wf.2 (by simp [e]))
  · exact .inl (mem_wf.2 (by simp [e]))
  · exact .inl (mem_wf.2 (by simp [e]))
  · exact .inl (mem_wf.2 (by simp [e]))
  · exact .inl (mem_wf.2 (by simp [e]))
  · exact .inl (mem_wf.2 (by simp [e]))
  · rcases hat with e9 | e9
    · exact .inl (mem_wf.2 (by simp [e9 ▸ e]))
    · rw [e9] at e
      simp at e
      exact .inr (by omega)

/-- Add. -/
theorem Pw.add (h : Pw wF w n1 b g rb mb mg bx N bb nl c L th lv wv l m Ls) (ok : LOk c L) (hS : Sk L th) (hN : c.words = N) (hl : l.length ≤ 1000) (z : Int) :
    Calls Tryz.prog 9 #[.pointer (some ⟨rb, 0, none⟩), .int .i64 (adr L c.words z)] w fun e w' => ∃ lv', e = .returned (.int .i64 (if fin L z = true then (if adr L c.words z ∈ l then 101 else 0) else 100)) ∧ Pw wF w' n1 b g rb mb mg bx N bb nl c L th lv' wv (if fin L z = true ∧ adr L c.words z ∉ l then l ++ [adr L c.words z] else l) m Ls := by
  have hp := h.p
  obtain ⟨M, hR⟩ := hp.rg
  obtain ⟨s, k, p, r, a, t, hh, d, hd, hk, hf⟩ := hd_of ok hp.bq.ax hS z
  by_cases hfin : fin L z = true
  · obtain ⟨n, hn, hlt⟩ := hf hfin
    have hk4 := hk.1 hfin
    subst hk4
    rw [hn] at hd ⊢
    have hnN : n < N := by omega
    by_cases hm : (n : Int) ∈ l
    · refine (wAdd_twice hR n hnN hm s p r a t hh d hd).mono ?_
      rintro e w' ⟨rfl, b9⟩
      refine ⟨lv, by rw [if_pos hfin, if_pos hm], ?_⟩
      rw [if_neg (by rintro ⟨-, h9⟩; exact h9 hm)]
      exact h.below b9
    · refine (wAdd_new hR (by omega) n hnN hm s p r a t hh d hd).mono ?_
      rintro e w' ⟨rfl, lv', hR', ht, hq⟩
      refine ⟨lv', by rw [if_pos hfin, if_neg hm], ?_⟩
      rw [if_pos ⟨hfin, hm⟩]
      have hb : n1 ≤ w.heap.size := Nat.le_trans hp.bq.lb (Nat.le_of_lt hp.bq.ax.ar.own.lt)
      have hne : ∀ q, q ∈ rb :: mg :: lv.ownBlock.toList → n1 ≤ q ∧ q ≠ b ∧ q ≠ g ∧ q ≠ bx ∧ wv.ownBlock ≠ some q := fun q hq9 => by
        obtain ⟨⟨gs, hgs⟩, bs, hbs⟩ := hp.bq.ax.ar.rowTy
        have h4 : w.heap[bx]? = _ := hp.bx_
        rcases List.mem_cons.1 hq9 with e | hq9
        · rw [e]
          have h3 := hR.own
          refine ⟨hR.lr, fun e => ?_, fun e => ?_, fun e => ?_, fun e => ?_⟩
          · rw [← e, h3] at hbs; simp at hbs
          · rw [← e, h3] at hgs; simp at hgs
          · rw [← e, h3] at h4; simp at h4
          · obtain ⟨cs, hc, -⟩ := own_cells hp.wn _ e
            exact (hp.cellsNe hc).2.2.1 rfl
        · rcases List.mem_cons.1 hq9 with e | hq9
          · rw [e]
            obtain ⟨c2, h2, -, -⟩ := hR.mp.row
            refine ⟨hR.lg, fun e => ?_, fun e => ?_, fun e => ?_, fun e => ?_⟩
            · rw [← e, h2] at hbs; simp at hbs
            · exact hp.gg e
            · rw [← e, h2] at h4; simp at h4
            · obtain ⟨cs, hc, -⟩ := own_cells hp.wn _ e
              exact (hp.cellsNe hc).2.2.2.2.1 rfl
          · obtain ⟨cs, hc, h5⟩ := own_cells hR.row q (Option.mem_toList.1 hq9)
            have h6 := hp.cellsNe hc
            exact ⟨h5, h6.1, h6.2.1, h6.2.2.2.2.2, fun e => hp.far q e (Option.mem_toList.1 hq9)⟩
      have hnt : ∀ {q : Nat}, q = b ∨ q = g ∨ q = bx ∨ wv.ownBlock = some q → q ∉ rb :: mg :: lv.ownBlock.toList := fun {q} h9 hm9 => by
        obtain ⟨-, e1, e2, e3, e4⟩ := hne q hm9
        rcases h9 with h9 | h9 | h9 | h9
        · exact e1 h9
        · exact e2 h9
        · exact e3 h9
        · exact e4 h9
      have hW : Wg wF n1 b g rb mb mg bx N c L th lv' wv (l ++ [(n : Int)]) m w' := by
        refine ⟨⟨hp.bq.ax.touch ht (hnt (.inl rfl)) (hnt (.inr (.inl rfl))) (fun hm => ?_) (fun hm => ?_), hp.bq.be.trans (ht.below hb (fun q h9 => (hne q h9).1)), hp.bq.lb, hp.bq.lg, hp.bq.t0, hp.bq.t1⟩, ⟨_, hR'⟩, (ht.block bx hp.bx_.lt (hnt (.inr (.inr (.inl rfl))))).trans hp.bx_, row_keep hp.wn (fun q h9 => ht.block q (row_lt hp.wn q h9) (hnt (.inr (.inr (.inr h9))))), fun q h9 e => ?_, hp.lx, hp.gg⟩
        · have := (hne _ hm).1; have := hp.bq.t0; omega
        · have := (hne _ hm).1; have := hp.bq.t1; omega
        · rcases hq with e9 | ⟨k9, e9, h8⟩
          · exact hp.far q h9 (e9 ▸ e)
          · rw [e9] at e
            have := row_lt hp.wn q h9
            simp at e
            omega
      refine h.step Wg.stq hW ((Touch.refl _ w).then ht (fun q h9 => .inl (mem_wf.2 ?_))) (fun q h9 => ?_)
      · rcases List.mem_cons.1 h9 with e | h9
        · simp [e]
        · rcases List.mem_cons.1 h9 with e | h9
          · simp [e]
          · simp [Option.mem_toList.1 h9]
      · rcases mem_wf.1 h9 with e | e | e | e | e | e | e | e
        · exact .inl (mem_wf.2 (by simp [e]))
        · exact .inl (mem_wf.2 (by simp [e]))
        · exact .inl (mem_wf.2 (by simp [e]))
        · exact .inl (mem_wf.2 (by simp [e]))
        · exact .inl (mem_wf.2 (by simp [e]))
        · exact .inl (mem_wf.2 (by simp [e]))
        · rcases hq with e9 | ⟨k9, e9, h8⟩
          · exact .inl (mem_wf.2 (by simp [e9 ▸ e]))
          · rw [e9] at e
            simp at e
            exact .inr (by omega)
        · exact .inl (mem_wf.2 (by simp [e]))
  · have hk4 : k ≠ 4 := fun e => hfin (hk.2 e)
    refine (wAdd_none hR (adr L c.words z) s k p r a t hh d hk4 hd).mono ?_
    rintro e w' ⟨rfl, b9⟩
    refine ⟨lv, by rw [if_neg hfin], ?_⟩
    rw [if_neg (fun h9 => hfin h9.1)]
    exact h.below b9

/-- List. -/
theorem Pw.list (h : Pw wF w n1 b g rb mb mg bx N bb nl c L th lv wv l m Ls) (hl : l.length ≤ 1000) (i : Nat) :
    Calls Tryz.prog 11 #[.pointer (some ⟨rb, 0, none⟩)] w fun e w' => ∃ v, e = .returned v ∧ Pw wF w' n1 b g rb mb mg bx N bb nl c L th lv wv l m (Ls.set i (some (v, l))) := by
  obtain ⟨M, hR⟩ := h.p.rg
  refine (wList_any hR (by omega)).mono ?_
  rintro e w' ⟨v, rfl, hr, b9⟩
  exact ⟨v, rfl, h.newB b9 hr i⟩

theorem Pw.same (h : Pw wF w n1 b g rb mb mg bx N bb nl c L th lv wv l l Ls) (hl : l.length ≤ 1000) {i : Nat} {v : Value} (hi : Ls[i]? = some (some (v, l))) :
    Calls Tryz.prog 12 #[v, wv] w fun e w' => e = .returned (.bool true) ∧ Pw wF w' n1 b g rb mb mg bx N bb nl c L th lv wv l l Ls := by
  refine (same10_yes v wv l (h.row hi) h.p.wn (by omega)).mono ?_
  rintro e w' ⟨rfl, b9⟩
  exact ⟨rfl, h.below b9⟩

theorem Rg.base {n2 : Nat} {M : Nat → Bool} (H : Rg w n1 rb b lv l mb mg N M) (h : n2 ≤ n1) : Rg w n2 rb b lv l mb mg N M :=
  ⟨H.own, Kg.row_base H.row h, H.mp, H.mem, Nat.le_trans h H.lr, Nat.le_trans h H.lm, Nat.le_trans h H.lg, H.rm, H.rg⟩

/-- Ahead of the loop. -/
theorem Pw.start {w3 w4 w5 : World} (hn : n1 ≤ wF.heap.size) (hB : Bq wF n1 w3 b g c (tps c L) false (wlay L) th) {M : Nat → Bool} (hR : Rg w4 w3.heap.size rb b (.slice none 0 0) [] mb mg N M) (l4 : Below w3.heap.size w3 w4) (hbx : Boxed w5 bx 33 (.pointer (some ⟨rb, 0, none⟩))) (hx0 : w4.heap.size ≤ bx) (l5 : Below w4.heap.size w4 w5) :
    Pw wF (w5.alloc (.cells (Kg.bkc Kg.bk0) 53)) n1 b g rb mb mg bx N w5.heap.size 0 c L th (.slice none 0 0) (.slice none 0 0) [] [] [none] := by
  have s1 := hB.be.size
  have s4 := l4.size
  have s5 := l5.size
  have lW : Below w5.heap.size w5 (w5.alloc (.cells (Kg.bkc Kg.bk0) 53)) := Below.alloc (Below.refl _ _) (Nat.le_refl _) _
  have l35 : Below w3.heap.size w3 (w5.alloc (.cells (Kg.bkc Kg.bk0) 53)) := l4.trans ((l5.trans (lW.mono s5)).mono s4)
  have hbk : Kg.Bk (w5.alloc (.cells (Kg.bkc Kg.bk0) 53)) w5.heap.size Kg.bk0 := heap_alloc_new w5 _
  generalize hW : w5.alloc (.cells (Kg.bkc Kg.bk0) 53) = W at *
  have hB5 : Bq wF n1 W b g c (tps c L) false (wlay L) th := hB.below hn l35
  have hR5 : Rg W n1 rb b (.slice none 0 0) [] mb mg N M := (hR.below (l5.trans (lW.mono s5))).base (Nat.le_trans hn s1)
  have hbl := hB.ax.ar.own.lt
  have hgl := hB.ax.ar.row.lt
  have hP : Wg wF n1 b g rb mb mg bx N c L th (.slice none 0 0) (.slice none 0 0) [] [] W := ⟨hB5, ⟨M, hR5⟩, (lW.block bx hbx.lt).trans hbx, World.ownsRow_nil _ _ _ _, fun q hq => by simp [Value.ownBlock] at hq, by omega, by have := hR.lg; omega⟩
  have hnn : ∀ (i : Nat) v l, ([none] : List (Option (Value × List Int)))[i]? = some (some (v, l)) → False := fun i v l hi => by
    cases i with
    | zero => simp at hi
    | succ i => simp at hi
  have hlt : ∀ q, q ∈ Wf b g rb mb mg bx (.slice none 0 0) (.slice none 0 0) → q < w5.heap.size := fun q hq => by
    have h1 := hR.lt
    have h2 := hR.mp.own.lt
    have h3 := hR.mp.row.lt
    have h4 := hbx.lt
    rcases mem_wf.1 hq with e | e | e | e | e | e | e | e
    · omega
    · omega
    · omega
    · omega
    · omega
    · omega
    · simp [Value.ownBlock] at e
    · simp [Value.ownBlock] at e
  refine ⟨⟨Kg.bk0, _, [], [], [], Kg.bok0 hbk (by omega), fun i v l hi => (hnn i v l hi).elim, fun i v l hi => (hnn i v l hi).elim, fun i j v l u m hi => (hnn i v l hi).elim, fun q hq => ⟨hP.lt q hq, fun ho => ?_, by simp⟩⟩, Wg.stq, hP, fun q hq => hP.ge q hq, by have := hB5.be.size; omega, hB5.be⟩
  rcases ho with rfl | ⟨j, h1, h2, h3⟩
  · have := hlt _ hq; omega
  · rw [Kg.bk0_row j h1 h2] at h3; cases h3

theorem Wg.next {lv' : Value} {l' : List Int} (h : Wg wF n1 b g rb mb mg bx N c L th lv wv l m w) {G : List Nat} (t : Touch G w w') (hG : ∀ q, q ∈ G → n1 ≤ q ∧ q ≠ b ∧ q ≠ g ∧ q ≠ bx ∧ wv.ownBlock ≠ some q) (hR : ∃ M, Rg w' n1 rb b lv' l' mb mg N M) (hf : ∀ q, wv.ownBlock = some q → lv'.ownBlock ≠ some q) : Wg wF n1 b g rb mb mg bx N c L th lv' wv l' m w' := by
  have hb : n1 ≤ w.heap.size := Nat.le_trans h.bq.lb (Nat.le_of_lt h.bq.ax.ar.own.lt)
  refine ⟨⟨h.bq.ax.touch t (fun hm => (hG b hm).2.1 rfl) (fun hm => (hG g hm).2.2.1 rfl) (fun hm => ?_) (fun hm => ?_), h.bq.be.trans (t.below hb (fun q hq => (hG q hq).1)), h.bq.lb, h.bq.lg, h.bq.t0, h.bq.t1⟩, hR, (t.block bx h.bx_.lt (fun hm => (hG bx hm).2.2.2.1 rfl)).trans h.bx_, row_keep h.wn (fun q hq => t.block q (row_lt h.wn q hq) (fun hm => (hG q hm).2.2.2.2 hq)), hf, h.lx, h.gg⟩
  · have := (hG _ hm).1; have := h.bq.t0; omega
  · have := (hG _ hm).1; have := h.bq.t1; omega

theorem Wg.below (h : Wg wF n1 b g rb mb mg bx N c L th lv wv l m w) (l9 : Below w.heap.size w w') : Wg wF n1 b g rb mb mg bx N c L th lv wv l m w' :=
  h.keep (Touch.of_below l9 []) (by simp) (by simp)

theorem Wg.setw {q cap : Nat} (h : Wg wF n1 b g rb mb mg bx N c L th lv (.slice (some ⟨q, 0, none⟩) m.length cap) l m w) (j : Nat) (x : Int) : Wg wF n1 b g rb mb mg bx N c L th lv (.slice (some ⟨q, 0, none⟩) m.length cap) l (m.set j x) (w.setCell ⟨q, j, none⟩ (.int .i64 x)) := by
  obtain ⟨cs, hc, hq⟩ := own_cells h.wn q rfl
  have hne := h.cellsNe hc
  have hb : n1 ≤ w.heap.size := Nat.le_trans h.bq.lb (Nat.le_of_lt h.bq.ax.ar.own.lt)
  obtain ⟨M, hR⟩ := h.rg
  have t : Touch [q] w (w.setCell ⟨q, j, none⟩ (.int .i64 x)) := Touch.setCell w ⟨q, j, none⟩ _ (by simp)
  have nq : ∀ {y : Nat}, q ≠ y → y ∉ [q] := fun {y} h9 hm => h9 (List.mem_singleton.1 hm).symm
  refine ⟨⟨h.bq.ax.touch t (nq hne.1) (nq hne.2.1) (nq (by have := h.bq.t0; omega)) (nq (by have := h.bq.t1; omega)), h.bq.be.trans (t.below hb (fun y hy => by simp at hy; omega)), h.bq.lb, h.bq.lg, h.bq.t0, h.bq.t1⟩, ⟨M, hR.touch t (nq hne.2.2.1) (nq hne.2.2.2.1) (nq hne.2.2.2.2.1) (fun y hy => nq (fun e => h.far q rfl (e ▸ hy)))⟩, (t.block bx h.bx_.lt (nq hne.2.2.2.2.2)).trans h.bx_, ?_, h.far, h.lx, h.gg⟩
  have h9 := Kg.row_set h.wn j (.int .i64 x)
  have e : ints (m.set j x) = (ints m).set j (.int .i64 x) := by simp [ints, List.map_set]
  rw [List.length_set, e]
  exact h9
end

end Go.Proofs.YtbgnagjhkfkekaaGreatDoor
