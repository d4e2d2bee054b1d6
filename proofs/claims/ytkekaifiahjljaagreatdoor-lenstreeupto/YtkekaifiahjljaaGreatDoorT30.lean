import Derived.RangeFuncNested
import Derived.RangeFuncBound
import Derived.RangeFuncCalls
import Derived.RangeFuncLeaves
import Derived.Shelf.Abstract
import Derived.WalkKit
import Derived.OwnWalkIn
import Derived.TacticsInMore
import Derived.LoopNIn
import Derived.LoopIn
import Derived.Maps.OwnIn
import Derived.Maps.AppendAt
import Derived.Test.YtkekaifiahjljaaGreatDoorT15
import Derived.Test.YtkekaifiahjljaaGreatDoorT11
import Derived.Shelf.SlIterI.Nil
import Derived.CallsIn
set_option linter.unusedVariables false
set_option maxHeartbeats 8000000
set_option maxRecDepth 20000
namespace Go.Proofs.YtkekaifiahjljaaGreatDoor.Kg
open Go.RowKit Go.Shelf
def OwnS {α : Type} (B : Nat) (J : (Nat → Prop) → List α → World → Prop) : Prop :=
  ∀ S s W W' row, J S s W → W.grownBy W' row → (∀ r, row = some r → B ≤ r ∧ ∃ o : Obj, W.heap[r]? = some o ∧ o.isCells = false) → J (fun k => S k ∨ (W.heap.size ≤ k ∧ k < W'.heap.size)) s W'
def SeqFull {α : Type} (P : Program) (gf : Nat) (lb : Array Value) (encs : α → Array Value) (xs : List α) (n0 : Nat) (Own : Nat → Prop) (w : World) : Prop :=
  ∀ (n l : Nat) (J : (Nat → Prop) → List α → World → Prop) (W : World) (S0 : Nat → Prop), Below w.heap.size w W → (∀ k, Own k → S0 k) → OwnS W.heap.size J →
    (∀ S pre x W1, J S pre W1 → pre ++ [x] <+: xs → ∀ m, YieldAt Fence.wide m P l (encs x) W1 fun e W' => e = .returned (.bool true) ∧ J S (pre ++ [x]) W' ∧ (∀ k, S k → W'.heap[k]? = W1.heap[k]?) ∧ Below n0 W1 W') →
    J S0 [] W → CallsIn Fence.wide n P gf (#[.func (.yield l) #[] #[]] ++ lb) W fun e W' => (∃ v, e = .returned v) ∧ ∃ S, J S xs W'
def goesOn {α : Type} (n0 : Nat) (I : (Nat → Prop) → List α → World → Prop) (S : Nat → Prop) (xs : List α) (W : World) : Exit → Act → World → Prop
  | .normal, _, W' => (∀ k, S k → W'.heap[k]? = W.heap[k]?) ∧ Below n0 W W' ∧ I S xs W'
  | _, _, _ => False
theorem OwnS.alloc {α : Type} {B : Nat} {J : (Nat → Prop) → List α → World → Prop} (h : OwnS B J) {S : Nat → Prop} {s : List α} {W : World} (hs : J S s W) (o : Obj) : J (fun k => S k ∨ (W.heap.size ≤ k ∧ k < (W.alloc o).heap.size)) s (W.alloc o) :=
  h S s W _ none hs (World.grownBy_alloc W o none) (fun r e => by cases e)
theorem OwnS.putObj {α : Type} {B : Nat} {J : (Nat → Prop) → List α → World → Prop} (h : OwnS B J) {S : Nat → Prop} {s : List α} {W : World} {l : Nat} {o : Obj} (o' : Obj) (hs : J S s W) (hB : B ≤ l) (hl : W.heap[l]? = some o) (ho : o.isCells = false) : J S s (W.putObj l o') := by
  have h1 := h S s W (W.putObj l o') (some l) hs (grownBy_putObj' W l o') (fun r e => by cases e; exact ⟨hB, o, hl, ho⟩)
  have h2 : (fun k => S k ∨ (W.heap.size ≤ k ∧ k < (W.putObj l o').heap.size)) = S := by
    funext k
    have : (W.putObj l o').heap.size = W.heap.size := by simp
    simp only [this, eq_iff_iff]
    constructor
    · rintro (h | h)
      · exact h
      · omega
    · exact Or.inl
  rw [h2] at h1
  exact h1
theorem range_full {α : Type} {P : Program} {n : Nat} {g : Operand} {ps : Array Tmp} {assign body : Code} {Q : Exit → Act → World → Prop} {a : Act} {w w0 : World} {gf n0 : Nat} {lb : Array Value} {encs : α → Array Value} {xs : List α} {S0 Own : Nat → Prop}
    (hg : a.eval g = .func (.func gf) #[] lb) (eg : ∀ args w, (callFunc gf args).run P w = .ok (.enter gf args) w) (hseq : SeqFull P gf lb encs xs n0 Own w0) (hOwn : ∀ k, Own k → S0 k) (hb0 : Below w0.heap.size w0 w) (hn0 : n0 ≤ w.heap.size) (hps : ∀ x, (encs x).size = ps.size)
    (I : (Nat → Prop) → List α → World → Prop) (hI : OwnS w.heap.size I) (h0 : I S0 [] w) (a1 : α → Act)
    (hassign : ∀ (l : Nat) (x : α) (W : World) (K : Act → World → Prop) (m : Nat), K (a1 x) W →
      assign.wpIn (Fence.wide.inRound l) m P (Exit.then K (fun _ _ _ => False)) { tmps := (ps.zip (encs x)).foldl (fun t (p, v) => t.setIfInBounds p v) a.tmps, defers := [] } W)
    (hbody : ∀ (l : Nat) (S : Nat → Prop) (pre : List α) (x : α) (W : World) (m : Nat), I S pre W → pre ++ [x] <+: xs → body.wpIn (Fence.wide.inRound l) m P (goesOn n0 I S (pre ++ [x]) W) (a1 x) W)
    (hdone : ∀ (D : Nat) (S : Nat → Prop) (W : World), w.heap.size ≤ D → I S xs W → W.heap[D]? = some (.deferred (some [])) → Q .normal { a with defers := { target := .collected D, args := #[] } :: a.defers } W) :
    (Code.rangeFunc g ps assign body).wpIn Fence.wide n P Q a w := by
  refine wpIn_rangeFunc ?_
  intro fn hfn
  obtain ⟨lp, hlp⟩ : ∃ lp : LoopState → Loop, lp = fun st => { state := st, pending := none, fn, tmps := a.tmps, params := ps, assign, body, defers := w.heap.size } := ⟨_, rfl⟩
  obtain ⟨W1, hW1⟩ : ∃ W1, W1 = (w.alloc (.deferred (some []))).alloc (.loop (lp .ready)) := ⟨_, rfl⟩
  have hL1 : W1.heap[w.heap.size + 1]? = some (.loop (lp .ready)) := by
    have := World.alloc_heap_new (w.alloc (.deferred (some []))) (.loop (lp .ready))
    rw [World.size_alloc] at this; rw [hW1]; exact this
  have hK1 : W1.heap[w.heap.size]? = some (.deferred (some [])) := by
    rw [hW1]; exact (Below.heap_alloc _ _ _ (by simp)).trans (World.alloc_heap_new w _)
  have hsz : W1.heap.size = w.heap.size + 2 := by rw [hW1]; simp
  have hI1 : ∃ S1 : Nat → Prop, I S1 [] W1 ∧ S1 w.heap.size ∧ S1 (w.heap.size + 1) ∧ (∀ k, S0 k → S1 k) := by
    rw [hW1]; exact ⟨_, hI.alloc (hI.alloc h0 _) _, .inl (.inr ⟨Nat.le_refl _, by simp⟩), .inr ⟨by simp, by simp⟩, fun k h => .inl (.inl h)⟩
  obtain ⟨S1, hI1, hd1, he1, hs1⟩ := hI1
  have hb1 : Below w0.heap.size w0 W1 := by
    rw [hW1]; exact (hb0.alloc hb0.size _).alloc (by have := hb0.size; simp; omega) _
  refine ⟨w.heap.size + 1, [{ target := .collected w.heap.size, args := #[] }], W1, { target := .fn (.func gf) lb, args := #[.func (.yield (w.heap.size + 1)) #[] #[]] }, W1, gf,
    #[.func (.yield (w.heap.size + 1)) #[] #[]] ++ lb, W1, ?_, ?_, ?_, ?_, ?_, ?_⟩
  · rw [hW1, hlp]; exact run_enterLoop_outer _ _ _ _ _
  · simp only [resolve, hg]
    simp [go_sem]
  · intro _ _; trivial
  · simp [invoke, go_sem, eg]
  · intro h; cases h
  · -- the two blocks of book-keeping stand beside the caller's invariant
    refine (hseq _ (w.heap.size + 1) (fun S pre W => I S pre W ∧ (S w.heap.size ∧ S (w.heap.size + 1)) ∧ W.heap[w.heap.size + 1]? = some (.loop (lp .ready)) ∧ W.heap[w.heap.size]? = some (.deferred (some []))) W1 S1 hb1 (fun k h => hs1 k (hOwn k h)) ?_ ?_ ⟨hI1, ⟨hd1, he1⟩, hL1, hK1⟩).mono ?_
    · intro S s A B row hs hgr hr
      have hkeep : ∀ k o, k < W1.heap.size → A.heap[k]? = some o → B.heap[k]? = some o := fun k o hk ho =>
        (hgr.block k (Array.getElem?_eq_some_iff.1 ho).1 (fun e => by have := (hr k e.symm).1; omega)).trans ho
      exact ⟨hI S s A B row hs.1 hgr (fun r e => ⟨by have := (hr r e).1; omega, (hr r e).2⟩), ⟨.inl hs.2.1.1, .inl hs.2.1.2⟩, hkeep _ _ (by omega) hs.2.2.1, hkeep _ _ (by omega) hs.2.2.2⟩
    · rintro S pre x W ⟨hi, ⟨hSd, hSl⟩, hl, hk⟩ hpre m
      have hy := run_yield (P := P) (args := encs x) hl (by rw [hlp]; exact hps x)
      rw [hlp] at hy
      refine ⟨fn, _, assign, body, hy, roundIn_of_wpIn hfn (hassign _ x W _ _ ?_)⟩
      clear hy
      have hlt : w.heap.size + 1 < W.heap.size := (Array.getElem?_eq_some_iff.1 hl).1
      refine ⟨_, run_beginRound hl (by rw [hlp]), ?_⟩
      have hl2 : (W.putObj (w.heap.size + 1) (.loop { lp .ready with state := .busy })).heap[w.heap.size + 1]? = some (.loop { lp .ready with state := .busy }) := World.putObj_heap_same hlt
      have hB2 : Below n0 W (W.putObj (w.heap.size + 1) (.loop { lp .ready with state := .busy })) := belowK_b (w := w) hn0 _ _ _ _ (by omega) hl rfl rfl
      have ho2 : ∀ k, k ≠ w.heap.size + 1 → (W.putObj (w.heap.size + 1) (.loop { lp .ready with state := .busy })).heap[k]? = W.heap[k]? := fun k hk => World.putObj_heap_other hk
      refine wpIn_mono (hbody _ S pre x _ _ (hI.putObj _ hi (by omega) hl rfl) hpre) ?_
      rintro e a3 W3 hp
      cases e with
      | normal =>
        obtain ⟨hk3, hb3, hi3⟩ := hp
        have hl3 := (hk3 _ hSl).trans hl2
        have hr := run_endRound (P := P) none hl3
        have hst : { ({ lp .ready with state := .busy } : Loop) with state := if (none : Option Code).isNone then .ready else .done, pending := none } = lp .ready := by rw [hlp]; rfl
        rw [hst] at hr
        have hl4 : (W3.putObj (w.heap.size + 1) (.loop (lp .ready))).heap[w.heap.size + 1]? = some (.loop (lp .ready)) := World.putObj_heap_same (Array.getElem?_eq_some_iff.1 hl3).1
        refine ⟨_, _, hr, rfl, ⟨hI.putObj _ hi3 (by omega) hl3 rfl, ⟨hSd, hSl⟩, hl4, ?_⟩, ?_, (hB2.trans hb3).trans (belowK_b (w := w) hn0 _ _ _ _ (by omega) hl3 rfl rfl)⟩
        · exact (World.putObj_heap_other (by omega)).trans ((hk3 _ hSd).trans ((ho2 _ (by omega)).trans hk))
        · intro k hSk
          by_cases hkl : k = w.heap.size + 1
          · subst hkl; rw [hl4, hl]
          · rw [World.putObj_heap_other hkl, hk3 k hSk, ho2 k hkl]
      | ret => exact hp.elim
      | exit id => exact hp.elim
      | goto t => exact hp.elim
      | panic ch => exact hp.elim
      | outgrown => exact hp.elim
    · rintro e W2 ⟨⟨v, rfl⟩, S, hi, -, hl, hk⟩
      have hr := run_endLoop (P := P) hl (by rw [hlp]; simp)
      refine ⟨_, _, hr, ?_⟩
      have := hdone w.heap.size S _ (Nat.le_refl _) (hI.putObj (.loop { lp .ready with state := .exhausted }) hi (by omega) hl rfl) ((World.putObj_heap_other (by omega)).trans hk)
      rw [hlp] at this ⊢
      exact this
attribute [local go_sem] Oper.semAt_some
def SliceIs (n0 : Nat) (W : World) (sv : Value) (zs : List Int) : Prop :=
  (sv = .slice none 0 0 ∧ zs = []) ∨ ∃ b off cap, sv = .slice (some ⟨b, off, none⟩) zs.length cap ∧ b < n0 ∧ ∀ (j : Nat) x, zs[j]? = some x → W.cell? ⟨b, off + j, none⟩ = some (.int .i64 x)
theorem SliceIs.below {n0 n1 : Nat} {A B : World} {sv : Value} {zs : List Int} (h : Below n1 A B) (hn : n0 ≤ n1) : SliceIs n0 A sv zs → SliceIs n0 B sv zs
  | .inl e => .inl e
  | .inr ⟨b, off, cap, e, hb, hc⟩ => .inr ⟨b, off, cap, e, hb, fun j x hj => (h.cell (p := ⟨b, off + j, none⟩) (by show b < n1; omega)).trans (hc j x hj)⟩
theorem take_snoc {α : Type} {zs : List α} {k : Nat} {x : α} (h : zs[k]? = some x) : zs.take k ++ [x] = zs.take (k + 1) := by
  rw [List.take_add_one, h]; rfl
set_option maxRecDepth 100000 in
theorem valuesI_full (Bs n0 : Nat) (sv : Value) (zs : List Int) (w : World) (hBs : Bs < w.heap.size) (hn0 : n0 ≤ w.heap.size) (hlen : zs.length < 8796093022208) (hc : w.cell? ⟨Bs, 0, none⟩ = some sv) (hI : SliceIs n0 w sv zs) :
    SeqFull Tryz.prog 99 #[.pointer (some ⟨Bs, 0, none⟩)] (fun x : Int => #[Value.int .i64 x]) zs n0 (fun _ => False) w := fun n l J W S0 hW _ hJ hY h0 => by
  have hc' := (hW.cell (p := ⟨Bs, 0, none⟩) hBs).trans hc
  refine callsIn_of_wp Tryz.func99 rfl trivial ?_ rfl
  simp only [Tryz.ntmps99, List.size_toArray, List.length_cons, List.length_nil, Nat.reduceAdd, Nat.reduceSub, Array.replicate_succ, Array.replicate_zero, List.push_toArray, List.append_toArray, List.nil_append, List.cons_append]
  rcases hI.below hW hn0 with ⟨rfl, rfl⟩ | ⟨b, off, cap, rfl, hb, hcs⟩
  · gi_wp2
    gi_loopw [7] (fun i wr => i = .int .i64 0 ∧ J S0 [] wr) (fun _ _ => 0)
    case atStart => exact ⟨rfl, h0⟩
    case round =>
      obtain ⟨rfl, hJs⟩ := hrel
      gi_wp2
      go_end0
      exact ⟨⟨_, rfl⟩, _, hJs⟩
  · gi_wp2
    gi_loopw [7] (fun i wr => ∃ (k : Nat) (S : Nat → Prop), k ≤ zs.length ∧ i = .int .i64 k ∧ J S (zs.take k) wr ∧ Below n0 W wr)
      (fun i _ => zs.length - (intOf i).toNat)
    case atStart => exact ⟨0, S0, Nat.zero_le _, rfl, h0, Below.refl _ _⟩
    case round =>
      obtain ⟨k, S, hk, rfl, hJs, hnx⟩ := hrel
      by_cases hlt : k < zs.length
      · obtain ⟨x, hx⟩ : ∃ x, zs[k]? = some x := ⟨_, List.getElem?_eq_getElem hlt⟩
        have hcx : wr.cell? ⟨b, off + k, none⟩ = some (.int .i64 x) := (hnx.cell (p := ⟨b, off + k, none⟩) hb).trans (hcs k x hx)
        have hsn := take_snoc hx
        obtain ⟨fn, tmps, assign, body, hy, hR⟩ := hY S (zs.take k) x wr hJs (by rw [hsn]; exact List.take_prefix _ _) (n - 1)
        have Hsn : Hid (zs.take k ++ [x] = zs.take (k + 1)) := hsn
        clear hsn hx
        gi_wp2
        refine ⟨fun h => (by cases h), hR.mono ?_⟩
        rintro e W3 ⟨rfl, hJ3, hS3, hk3⟩
        rw [Hsn.out] at hJ3
        gi_wp2
        go_roundw
        case rel => exact ⟨k + 1, S, hlt, by go_num, hJ3, hnx.trans hk3⟩
        case measure => simp [intOf]; omega
      · obtain rfl : k = zs.length := by omega
        rw [List.take_length] at hJs
        gi_wp2
        go_end0
        exact ⟨⟨_, rfl⟩, S, hJs⟩
theorem valuesI_any (a : Option Addr) (len cap : Nat) (w : World) :
    Calls Tryz.prog 54 #[.slice a len cap] w fun e w' => e = .returned (.func (.func 99) #[] #[.pointer (some ⟨w.heap.size, 0, none⟩)]) ∧ w' = w.alloc (.cells #[.slice a len cap] 24) := by
  go_enter Tryz.func54, Tryz.ntmps54
  go_wp2
  go_ret
  exact ⟨rfl, rfl⟩
def Copying {α : Type} (w : World) (tb te : Nat) (enc : α → Value) (S : Nat → Prop) (pre : List α) (W : World) : Prop :=
  ∃ v, Boxed W w.heap.size tb v ∧ W.ownsRow w.heap.size te 1 v pre.length (pre.map enc) ∧ ¬ S w.heap.size ∧ (∀ g, v.ownBlock = some g → ¬ S g) ∧ (∀ k, S k → k < W.heap.size) ∧ Below w.heap.size w W
theorem copying_own {α : Type} (w : World) (tb te : Nat) (enc : α → Value) (B : Nat) (hB : w.heap.size ≤ B) : OwnS B (Copying w tb te enc) := by
  rintro S s X Y row ⟨v, hb, hr, h1, h2, h3, h4⟩ hg hrow
  have hbr : some w.heap.size ≠ row := fun e => by
    obtain ⟨_, o, ho, hc⟩ := hrow _ e.symm
    rw [show X.heap[w.heap.size]? = _ from hb] at ho; cases ho; cases hc
  have hvr : v.ownBlock = none ∨ v.ownBlock ≠ row := by
    rcases hr.2 with ⟨rfl, _⟩ | ⟨g, cap, cur, rfl, _, hgb, _⟩
    · exact .inl rfl
    · refine .inr fun e' => ?_
      obtain ⟨_, o, ho, hc⟩ := hrow g (by simpa [Value.ownBlock] using e'.symm)
      rw [hgb] at ho; cases ho; cases hc
  refine ⟨v, hb.kept hg hbr, hr.kept hg hvr, ?_, ?_, ?_, ?_⟩
  · rintro (h | h)
    · exact h1 h
    · have := hb.lt; omega
  · rintro g e (h | h)
    · exact h2 g e h
    · have := (hr.lt g e).2; omega
  · rintro k (h | h)
    · have := h3 k h; have := hg.size; omega
    · exact h.2
  · exact h4.grown hg h4.size (fun k e => by have := (hrow k e).1; omega)
theorem copying_step {α : Type} {w W w1 : World} {tb te : Nat} {enc : α → Value} {S : Nat → Prop} {pre : List α} {x : α} {v v' : Value} {tmp : Obj} {a : Act} (hte : tb ≠ te) (hv : Boxed W w.heap.size tb v) (hrow : W.ownsRow w.heap.size te 1 v pre.length (pre.map enc))
    (h1 : ¬ S w.heap.size) (h2 : ∀ g, v.ownBlock = some g → ¬ S g) (h3 : ∀ k, S k → k < W.heap.size) (hB : Below w.heap.size w W)
    (hown : w1.ownsRow w.heap.size te 1 v' (pre.length + 1) (pre.map enc ++ [enc x])) (hgrow : (W.alloc tmp).grownBy w1 v.ownBlock) (hat : v'.ownBlock = v.ownBlock ∨ v'.ownBlock = some (W.alloc tmp).heap.size) :
    goesOn w.heap.size (Copying w tb te enc) S (pre ++ [x]) W .normal a (w1.setCell ⟨w.heap.size, 0, none⟩ v') := by
  obtain ⟨hv1, hv2, hr2, hk2, hb2⟩ := hv.appended hte hrow hB.size (Nat.le_refl _) hown hgrow
  refine ⟨fun k hk => ?_, hb2, v', hv2, by simpa using hr2, h1, fun g hg => ?_, fun k hk => ?_, hB.trans hb2⟩
  · have hkl := h3 k hk
    rw [Below.heap_setCell _ _ _ _ (fun e => h1 (by simp at e; rw [← e]; exact hk)), hgrow.block k (by simp; omega) (fun e => h2 k e.symm hk), Below.heap_alloc _ _ _ hkl]
  · rcases hat with e | e
    · exact h2 g (e ▸ hg)
    · rw [e] at hg; cases hg
      intro hS; have := h3 _ hS; simp at this; omega
  · exact Nat.lt_of_lt_of_le (h3 k hk) hb2.size
end Go.Proofs.YtkekaifiahjljaaGreatDoor.Kg
namespace Go.Proofs.YtkekaifiahjljaaGreatDoor.Kg
open Go.RowKit Go.Shelf
attribute [local go_sem] Oper.semAt_some
set_option maxRecDepth 100000 in
theorem appendSeq_any (gf : Nat) (lb : Array Value) (xs : List Int) (Own : Nat → Prop) (w : World) (eg : ∀ args w, (callFunc gf args).run Tryz.prog w = .ok (.enter gf args) w)
    (hseq : SeqFull Tryz.prog gf lb (fun x : Int => #[Value.int .i64 x]) xs w.heap.size Own w) (hOwn : ∀ k, Own k → k < w.heap.size) (hlen : xs.length < 8796093022208) :
    Calls Tryz.prog 123 #[.slice none 0 0, .func (.func gf) #[] lb] w fun e W' => ∃ v, e = .returned v ∧ W'.ownsRow w.heap.size 3 1 v xs.length (ints xs) ∧ Below w.heap.size w W' := by
  refine (callsIn_wide (n := 9)).1 ?_
  obtain ⟨i0, hi, hz0, hz1, hz2⟩ := info_parts Tryz.infoInt
  refine callsIn_of_wp_marks Tryz.func123 rfl trivial ?_ rfl
  simp only [Tryz.ntmps123, List.size_toArray, List.length_cons, List.length_nil, Nat.reduceAdd, Nat.reduceSub, Array.replicate_succ, Array.replicate_zero, List.push_toArray, List.append_toArray, List.nil_append, List.cons_append]
  gi_wp2
  have bO := Boxed.new w 24 (.slice none 0 0)
  refine range_full (S0 := fun k => k < w.heap.size) (gf := gf) (lb := lb) (w0 := w) (n0 := w.heap.size) rfl eg hseq hOwn ((Below.refl _ w).alloc (Nat.le_refl _) _) (by simp) (fun _ => rfl)
    (Copying w 24 3 (Value.int .i64)) (copying_own w 24 3 (Value.int .i64) _ (by simp))
    ⟨_, bO, World.ownsRow_nil _ _ _ _, by simp, by simp [Value.ownBlock], fun k h => by simp at h ⊢; omega, (Below.refl _ w).alloc (Nat.le_refl _) _⟩
    (fun x => { tmps := #[.slice none 0 0, .func (.func gf) #[] lb, .pointer (some ⟨w.heap.size, 0, none⟩), undef, .slice none 0 0, .int .i64 x, .func (.func gf) #[] lb, .int .i64 x, undef, undef, undef, undef, undef], defers := [] }) ?assign ?body ?done
  case assign =>
    intro l x W K m hK
    gi_wp2
    exact hK
  case body =>
    rintro l S pre x W m ⟨v, hv, hrow, h1, h2, h3, hB⟩ hpre
    have hpl : pre.length < 8796093022208 := by have := hpre.length_le; simp at this; omega
    have hc := hv.cell
    gi_wp2_with (gi_at_builtin; refine wpListIn_append_own_at _ rfl _ _ 24 rfl w.heap.size 3 i0 (.int .i64 0) 1 8 Tryz.underlying24 hi hz0 hz1 hz2 rfl (by decide) _ _ _ rfl (hrow.alloc _) ⟨W.heap.size, 0, none⟩ 1 1 [.int .i64 x] rfl rfl (cell_one_new _ _ _) (by simp [Value.oneCell']) (by simp [maxLen]; omega) (by omega) (by have := hB.size; simp; omega) ?_; intro v' w1 hown' hgrow _ hat; obtain ⟨g', cap', rfl⟩ := ownsRow_succ hown'; obtain ⟨hv1, hv2, hr2, hk2, hb2⟩ := hv.appended (by decide) hrow hB.size (Nat.le_refl _) hown' hgrow; have hc1 := hv1.cell; have hf1 := hv1.frozen)
    exact copying_step (by decide) hv hrow h1 h2 h3 hB hown' hgrow hat
  case done =>
    rintro D S W hD ⟨v, hv, hrow, -, -, -, hB⟩ hK
    have hc := hv.cell
    gi_wp2
    refine ⟨by simp, .inl ⟨_, _, rfl, run_takeDeferred hK, ?_⟩⟩
    exact ⟨_, results_tmp rfl _ _ _, v, rfl, ownsRow_putObj hrow _ hK rfl, hB.trans (belowK_b (w := w) (Nat.le_refl _) W D _ _ (by simp at hD; omega) hK rfl rfl)⟩
theorem collect_any (gf : Nat) (lb : Array Value) (xs : List Int) (Own : Nat → Prop) (w : World) (eg : ∀ args w, (callFunc gf args).run Tryz.prog w = .ok (.enter gf args) w)
    (hseq : SeqFull Tryz.prog gf lb (fun x : Int => #[Value.int .i64 x]) xs w.heap.size Own w) (hOwn : ∀ k, Own k → k < w.heap.size) (hlen : xs.length < 8796093022208) :
    Calls Tryz.prog 76 #[.func (.func gf) #[] lb] w fun e W' => ∃ v, e = .returned v ∧ W'.ownsRow w.heap.size 3 1 v xs.length (ints xs) ∧ Below w.heap.size w W' := by
  have ha := appendSeq_any gf lb xs Own w eg hseq hOwn hlen
  clear hseq hOwn hlen
  go_enter Tryz.func76, Tryz.ntmps76
  go_wp2_with fail
  refine ha.mono ?_
  rintro e W1 ⟨v, rfl, ho, hb⟩
  clear ha
  obtain ⟨a, c, rfl⟩ := own_slice ho
  go_wp2
  go_ret
  exact ⟨_, rfl, ho, hb⟩
end Go.Proofs.YtkekaifiahjljaaGreatDoor.Kg
namespace Go.Proofs.YtkekaifiahjljaaGreatDoor
open Go.RowKit Go.Shelf Go.Lib Go.Sort Go.Proofs.YtkekaifiahjljaaGreatDoor.Lp
attribute [local go_sem] Oper.semAt_some
theorem valuesN_full (Bs n0 : Nat) (a : Option Addr) (cap : Nat) (w : World) (hBs : Bs < w.heap.size) (hc : w.cell? ⟨Bs, 0, none⟩ = some (.slice a 0 cap)) :
    Kg.SeqFull Tryz.prog 99 #[.pointer (some ⟨Bs, 0, none⟩)] (fun x : Int => #[Value.int .i64 x]) [] n0 (fun _ => False) w := fun n l J W S0 hW _ hJ hY h0 => by
  have hc' := (hW.cell (p := ⟨Bs, 0, none⟩) hBs).trans hc
  refine callsIn_of_wp Tryz.func99 rfl trivial ?_ rfl
  simp only [Tryz.ntmps99, List.size_toArray, List.length_cons, List.length_nil, Nat.reduceAdd, Nat.reduceSub, Array.replicate_succ, Array.replicate_zero, List.push_toArray, List.append_toArray, List.nil_append, List.cons_append]
  gi_wp2
  gi_loopw [7] (fun i wr => i = .int .i64 0 ∧ J S0 [] wr) (fun _ _ => 0)
  case atStart => exact ⟨rfl, h0⟩
  case round =>
    obtain ⟨rfl, hJs⟩ := hrel
    gi_wp2
    go_end0
    exact ⟨⟨_, rfl⟩, _, hJs⟩
theorem seq_of {n0 : Nat} {w : World} {v : Value} {zs : List Int} (hl : Lrd n0 w v .i64 zs) (hn : n0 ≤ w.heap.size) (hlen : zs.length ≤ 1000000000) :
    Kg.SeqFull Tryz.prog 99 #[.pointer (some ⟨w.heap.size, 0, none⟩)] (fun x : Int => #[Value.int .i64 x]) zs (w.alloc (.cells #[v] 24)).heap.size (fun _ => False) (w.alloc (.cells #[v] 24)) := by
  have hb : Below n0 w (w.alloc (.cells #[v] 24)) := Below.alloc (Below.refl _ _) hn _
  have hc : (w.alloc (.cells #[v] 24)).cell? ⟨w.heap.size, 0, none⟩ = some v := cell_of_row _ _ 0 _ _ _ (heap_alloc_new w (.cells #[v] 24 (0, 0)))
  obtain ⟨a, cap, rfl, -, h3⟩ := hl.below hb
  cases zs with
  | nil => exact valuesN_full _ _ _ _ _ (by simp) hc
  | cons z r =>
    refine Kg.valuesI_full _ _ _ _ _ (by simp) (Nat.le_refl _) (by omega) hc (.inr ?_)
    obtain ⟨q, off, rfl, hq, -⟩ := h3 0 z rfl
    refine ⟨q, off, cap, rfl, by simp; omega, fun j x hj => ?_⟩
    obtain ⟨q', off', e, -, h6⟩ := h3 j x hj
    simp only [Option.some.injEq, Addr.mk.injEq, and_true] at e
    obtain ⟨rfl, rfl⟩ := e
    exact h6
theorem sortedV_any (n0 : Nat) (v : Value) (zs : List Int) (w : World) (hl : Lrd n0 w v .i64 zs) (hn : n0 ≤ w.heap.size) (hlen : zs.length ≤ 1000000000) :
    Calls Tryz.prog 33 #[.func (.func 99) #[] #[.pointer (some ⟨w.heap.size, 0, none⟩)]] (w.alloc (.cells #[v] 24)) fun e w' => ∃ v', e = .returned v' ∧ Il w' (w.heap.size + 1) v' (zs.mergeSort (fun x y => decide (x ≤ y))) ∧ Below (w.heap.size + 1) (w.alloc (.cells #[v] 24)) w' := by
  have hcol := Kg.collect_any 99 #[.pointer (some ⟨w.heap.size, 0, none⟩)] zs (fun _ => False) (w.alloc (.cells #[v] 24)) (enters_of Tryz.func99 (by kernel_rfl) rfl) (seq_of hl hn hlen) (fun k h => h.elim) (by omega)
  have hs : (w.alloc (.cells #[v] 24)).heap.size = w.heap.size + 1 := by simp
  generalize w.alloc (.cells #[v] 24) = w1 at *
  rw [hs] at hcol
  have HS : Hid (w1.heap.size = w.heap.size + 1) := hs
  clear hl hs
  go_enter Tryz.func33, Tryz.ntmps33
  go_wp2_with fail
  refine hcol.mono ?_
  rintro e W1 ⟨vc, rfl, ho, hb⟩
  clear hcol
  rcases ho.2 with ⟨rfl, hz⟩ | ⟨gb, cap, cur, rfl, hbase, hgb, r1, r2, r3, r4⟩
  · obtain rfl : zs = [] := List.eq_nil_of_length_eq_zero hz
    have q := AnyM.slices_Sort_int_none Tryz.sortA none 0 W1
    have HO : Hid (W1.ownsRow (w.heap.size + 1) 3 1 (.slice none 0 0) 0 []) := World.ownsRow_nil _ _ _ _
    have HB : Hid (Below (w.heap.size + 1) w1 W1) := hb
    clear ho hb
    go_wp2_with fail
    refine q.mono ?_
    rintro e w' ⟨rfl, rfl⟩
    go_wp2
    go_ret
    refine ⟨_, rfl, ?_, HB.out⟩
    show World.ownsRow _ _ _ _ _ (List.mergeSort [] _).length (Kg.ints (List.mergeSort [] _))
    rw [List.mergeSort_nil]
    exact HO.out
  · have hH : Holds (Value.int .i64) W1 gb 0 zs.toArray := holds_of_block_i hgb (by simpa using r4)
    have q := AnyM.slices_Sort_int Tryz.sortA gb 0 cap zs W1 hH (Array.getElem?_eq_some_iff.1 hgb).1 (by omega)
    have HO : Hid (∀ n os, (grow (putRow (Value.int .i64) (Sort.ahead W1 n) gb 0 (zs.mergeSort fun x y => decide (x ≤ y)).toArray) os).ownsRow (w.heap.size + 1) 3 1 (.slice (some ⟨gb, 0, none⟩) zs.length cap) zs.length ((zs.mergeSort (fun x y => decide (x ≤ y))).map (Value.int .i64))) := fun n os => ownsRow_sorted_i (by simp) hbase hgb r1 r2 r3
    have HB : Hid (∀ n os, Below (w.heap.size + 1) w1 (grow (putRow (Value.int .i64) (Sort.ahead W1 n) gb 0 (zs.mergeSort fun x y => decide (x ≤ y)).toArray) os)) := fun n os => hb.grown (grownBy_sorted_i _) (by rw [← HS.out]; exact hb.size) (fun j hj => by cases hj; exact hbase)
    clear ho hb hH hbase hgb r1 r2 r3 r4
    go_wp2_with fail
    refine q.mono ?_
    rintro e w' ⟨rfl, nn, os, rfl⟩
    go_wp2
    go_ret
    refine ⟨_, rfl, ?_, HB.out nn os⟩
    show World.ownsRow _ _ _ _ _ (zs.mergeSort _).length _
    rw [List.length_mergeSort]
    exact HO.out nn os
end Go.Proofs.YtkekaifiahjljaaGreatDoor
