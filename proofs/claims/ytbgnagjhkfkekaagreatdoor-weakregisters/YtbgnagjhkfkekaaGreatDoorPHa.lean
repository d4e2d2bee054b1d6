import Derived.RangeFuncNested
import Derived.RangeFuncBound
import Derived.RangeFuncCalls
import Derived.RangeFuncLeaves
import Derived.Shelf.Abstract
import Derived.WalkKit
import Derived.OwnWalkIn
import Derived.TacticsInMore
import Derived.LoopNIn
import Derived.LoopIn
import Derived.Maps.OwnIn
import Derived.Maps.AppendAt
import Derived.Test.YtbgnagjhkfkekaaGreatDoorPAc
/-
  A range over an iterator that is gone through to its end.
-/
set_option linter.unusedVariables false
namespace Go.Proofs.YtbgnagjhkfkekaaGreatDoor
open Go.RowKit Go.Shelf

/-- An invariant beside a set of blocks that its holder leaves alone: it abides new blocks (they join the set) and turns of what is no cells from B on. -/
def OwnS {α : Type} (B : Nat) (J : (Nat → Prop) → List α → World → Prop) : Prop :=
  ∀ S s W W' row, J S s W → W.grownBy W' row → (∀ r, row = some r → B ≤ r ∧ ∃ o : Obj, W.heap[r]? = some o ∧ o.isCells = false) → J (fun k => S k ∨ (W.heap.size ≤ k ∧ k < W'.heap.size)) s W'

/-- The iterator gives just xs to whoever takes them all, keeps what lay below n0 and leaves the iterator's own blocks alone. -/
def SeqFull {α : Type} (P : Program) (gf : Nat) (lb : Array Value) (encs : α → Array Value) (xs : List α) (n0 : Nat) (Own : Nat → Prop) (w : World) : Prop :=
  ∀ (n l : Nat) (J : (Nat → Prop) → List α → World → Prop) (W : World) (S0 : Nat → Prop), Below w.heap.size w W → (∀ k, Own k → S0 k) → OwnS W.heap.size J →
    (∀ S pre x W1, J S pre W1 → pre ++ [x] <+: xs → ∀ m, YieldAt Fence.wide m P l (encs x) W1 fun e W' => e = .returned (.bool true) ∧ J S (pre ++ [x]) W' ∧ (∀ k, S k → W'.heap[k]? = W1.heap[k]?) ∧ Below n0 W1 W') →
    J S0 [] W → CallsIn Fence.wide n P gf (#[.func (.yield l) #[] #[]] ++ lb) W fun e W' => (∃ v, e = .returned v) ∧ ∃ S, J S xs W'

/-- How a round's body is left: it goes on. -/
def goesOn {α : Type} (n0 : Nat) (I : (Nat → Prop) → List α → World → Prop) (S : Nat → Prop) (xs : List α) (W : World) : Exit → Act → World → Prop
  | .normal, _, W' => (∀ k, S k → W'.heap[k]? = W.heap[k]?) ∧ Below n0 W W' ∧ I S xs W'
  | _, _, _ => False

theorem OwnS.alloc {α : Type} {B : Nat} {J : (Nat → Prop) → List α → World → Prop} (h : OwnS B J) {S : Nat → Prop} {s : List α} {W : World} (hs : J S s W) (o : Obj) : J (fun k => S k ∨ (W.heap.size ≤ k ∧ k < (W.alloc o).heap.size)) s (W.alloc o) :=
  h S s W _ none hs (World.grownBy_alloc W o none) (fun r e => by cases e)

theorem OwnS.putObj {α : Type} {B : Nat} {J : (Nat → Prop) → List α → World → Prop} (h : OwnS B J) {S : Nat → Prop} {s : List α} {W : World} {l : Nat} {o : Obj} (o' : Obj) (hs : J S s W) (hB : B ≤ l) (hl : W.heap[l]? = some o) (ho : o.isCells = false) : J S s (W.putObj l o') := by
  have h1 := h S s W (W.putObj l o') (some l) hs (grownBy_putObj' W l o') (fun r e => by cases e; exact ⟨hB, o, hl, ho⟩)
  have h2 : (fun k => S k ∨ (W.heap.size ≤ k ∧ k < (W.putObj l o').heap.size)) = S := by
    funext k
    have : (W.putObj l o').heap.size = W.heap.size := by simp
    simp only [this, eq_iff_iff]
    constructor
    · rintro (h | h)
      · exact h
      · omega
    · exact Or.inl
  rw [h2] at h1
  exact h1

theorem range_full {α : Type} {P : Program} {n : Nat} {g : Operand} {ps : Array Tmp} {assign body : Code} {Q : Exit → Act → World → Prop} {a : Act} {w w0 : World} {gf n0 : Nat} {lb : Array Value} {encs : α → Array Value} {xs : List α} {S0 Own : Nat → Prop}
    (hg : a.eval g = .func (.func gf) #[] lb) (eg : ∀ args w, (callFunc gf args).run P w = .ok (.enter gf args) w) (hseq : SeqFull P gf lb encs xs n0 Own w0) (hOwn : ∀ k, Own k → S0 k) (hb0 : Below w0.heap.size w0 w) (hn0 : n0 ≤ w.heap.size) (hps : ∀ x, (encs x).size = ps.size)
    (I : (Nat → Prop) → List α → World → Prop) (hI : OwnS w.heap.size I) (h0 : I S0 [] w) (a1 : α → Act)
    (hassign : ∀ (l : Nat) (x : α) (W : World) (K : Act → World → Prop) (m : Nat), K (a1 x) W →
      assign.wpIn (Fence.wide.inRound l) m P (Exit.then K (fun _ _ _ => False)) { tmps := (ps.zip (encs x)).foldl (fun t (p, v) => t.setIfInBounds p v) a.tmps, defers := [] } W)
    (hbody : ∀ (l : Nat) (S : Nat → Prop) (pre : List α) (x : α) (W : World) (m : Nat), I S pre W → pre ++ [x] <+: xs → body.wpIn (Fence.wide.inRound l) m P (goesOn n0 I S (pre ++ [x]) W) (a1 x) W)
    (hdone : ∀ (D : Nat) (S : Nat → Prop) (W : World), w.heap.size ≤ D → I S xs W → W.heap[D]? = some (.deferred (some [])) → Q .normal { a with defers := { target := .collected D, args := #[] } :: a.defers } W) :
    (Code.rangeFunc g ps assign body).wpIn Fence.wide n P Q a w := by
  refine wpIn_rangeFunc ?_
  intro fn hfn
  obtain ⟨lp, hlp⟩ : ∃ lp : LoopState → Loop, lp = fun st => { state := st, pending := none, fn, tmps := a.tmps, params := ps, assign, body, defers := w.heap.size } := ⟨_, rfl⟩
  obtain ⟨W1, hW1⟩ : ∃ W1, W1 = (w.alloc (.deferred (some []))).alloc (.loop (lp .ready)) := ⟨_, rfl⟩
  have hL1 : W1.heap[w.heap.size + 1]? = some (.loop (lp .ready)) := by
    have := World.alloc_heap_new (w.alloc (.deferred (some []))) (.loop (lp .ready))
    rw [World.size_alloc] at this; rw [hW1]; exact this
  have hK1 : W1.heap[w.heap.size]? = some (.deferred (some [])) := by
    rw [hW1]; exact (Below.heap_alloc _ _ _ (by simp)).trans (World.alloc_heap_new w _)
  have hsz : W1.heap.size = w.heap.size + 2 := by rw [hW1]; simp
  have hI1 : ∃ S1 : Nat → Prop, I S1 [] W1 ∧ S1 w.heap.size ∧ S1 (w.heap.size + 1) ∧ (∀ k, S0 k → S1 k) := by
    rw [hW1]; exact ⟨_, hI.alloc (hI.alloc h0 _) _, .inl (.inr ⟨Nat.le_refl _, by simp⟩), .inr ⟨by simp, by simp⟩, fun k h => .inl (.inl h)⟩
  obtain ⟨S1, hI1, hd1, he1, hs1⟩ := hI1
  have hb1 : Below w0.heap.size w0 W1 := by
    rw [hW1]; exact (hb0.alloc hb0.size _).alloc (by have := hb0.size; simp; omega) _
  refine ⟨w.heap.size + 1, [{ target := .collected w.heap.size, args := #[] }], W1, { target := .fn (.func gf) lb, args := #[.func (.yield (w.heap.size + 1)) #[] #[]] }, W1, gf,
    #[.func (.yield (w.heap.size + 1)) #[] #[]] ++ lb, W1, ?_, ?_, ?_, ?_, ?_, ?_⟩
  · rw [hW1, hlp]; exact run_enterLoop_outer _ _ _ _ _
  · simp only [resolve, hg]
    simp [go_sem]
  · intro _ _; trivial
  · simp [invoke, go_sem, eg]
  · intro h; cases h
  · -- the two blocks of book-keeping stand beside the caller's invariant
    refine (hseq _ (w.heap.size + 1) (fun S pre W => I S pre W ∧ (S w.heap.size ∧ S (w.heap.size + 1)) ∧ W.heap[w.heap.size + 1]? = some (.loop (lp .ready)) ∧ W.heap[w.heap.size]? = some (.deferred (some []))) W1 S1 hb1 (fun k h => hs1 k (hOwn k h)) ?_ ?_ ⟨hI1, ⟨hd1, he1⟩, hL1, hK1⟩).mono ?_
    · intro S s A B row hs hgr hr
      have hkeep : ∀ k o, k < W1.heap.size → A.heap[k]? = some o → B.heap[k]? = some o := fun k o hk ho =>
        (hgr.block k (Array.getElem?_eq_some_iff.1 ho).1 (fun e => by have := (hr k e.symm).1; omega)).trans ho
      exact ⟨hI S s A B row hs.1 hgr (fun r e => ⟨by have := (hr r e).1; omega, (hr r e).2⟩), ⟨.inl hs.2.1.1, .inl hs.2.1.2⟩, hkeep _ _ (by omega) hs.2.2.1, hkeep _ _ (by omega) hs.2.2.2⟩
    · rintro S pre x W ⟨hi, ⟨hSd, hSl⟩, hl, hk⟩ hpre m
      have hy := run_yield (P := P) (args := encs x) hl (by rw [hlp]; exact hps x)
      rw [hlp] at hy
      refine ⟨fn, _, assign, body, hy, roundIn_of_wpIn hfn (hassign _ x W _ _ ?_)⟩
      clear hy
      have hlt : w.heap.size + 1 < W.heap.size := (Array.getElem?_eq_some_iff.1 hl).1
      refine ⟨_, run_beginRound hl (by rw [hlp]), ?_⟩
      have hl2 : (W.putObj (w.heap.size + 1) (.loop { lp .ready with state := .busy })).heap[w.heap.size + 1]? = some (.loop { lp .ready with state := .busy }) := World.putObj_heap_same hlt
      have hB2 : Below n0 W (W.putObj (w.heap.size + 1) (.loop { lp .ready with state := .busy })) := belowK_b (w := w) hn0 _ _ _ _ (by omega) hl rfl rfl
      have ho2 : ∀ k, k ≠ w.heap.size + 1 → (W.putObj (w.heap.size + 1) (.loop { lp .ready with state := .busy })).heap[k]? = W.heap[k]? := fun k hk => World.putObj_heap_other hk
      refine wpIn_mono (hbody _ S pre x _ _ (hI.putObj _ hi (by omega) hl rfl) hpre) ?_
      rintro e a3 W3 hp
      cases e with
      | normal =>
        obtain ⟨hk3, hb3, hi3⟩ := hp
        have hl3 := (hk3 _ hSl).trans hl2
        have hr := run_endRound (P := P) none hl3
        have hst : { ({ lp .ready with state := .busy } : Loop) with state := if (none : Option Code).isNone then .ready else .done, pending := none } = lp .ready := by rw [hlp]; rfl
        rw [hst] at hr
        have hl4 : (W3.putObj (w.heap.size + 1) (.loop (lp .ready))).heap[w.heap.size + 1]? = some (.loop (lp .ready)) := World.putObj_heap_same (Array.getElem?_eq_some_iff.1 hl3).1
        refine ⟨_, _, hr, rfl, ⟨hI.putObj _ hi3 (by omega) hl3 rfl, ⟨hSd, hSl⟩, hl4, ?_⟩, ?_, (hB2.trans hb3).trans (belowK_b (w := w) hn0 _ _ _ _ (by omega) hl3 rfl rfl)⟩
        · exact (World.putObj_heap_other (by omega)).trans ((hk3 _ hSd).trans ((ho2 _ (by omega)).trans hk))
        · intro k hSk
          by_cases hkl : k = w.heap.size + 1
          · subst hkl; rw [hl4, hl]
          · rw [World.putObj_heap_other hkl, hk3 k hSk, ho2 k hkl]
      | ret => exact hp.elim
      | exit id => exact hp.elim
      | goto t => exact hp.elim
      | panic ch => exact hp.elim
      | outgrown => exact hp.elim
    · rintro e W2 ⟨⟨v, rfl⟩, S, hi, -, hl, hk⟩
      have hr := run_endLoop (P := P) hl (by rw [hlp]; simp)
      refine ⟨_, _, hr, ?_⟩
      have := hdone w.heap.size S _ (Nat.le_refl _) (hI.putObj (.loop { lp .ready with state := .exhausted }) hi (by omega) hl rfl) ((World.putObj_heap_other (by omega)).trans hk)
      rw [hlp] at this ⊢
      exact this

end Go.Proofs.YtbgnagjhkfkekaaGreatDoor

/-
  A space that is ranged over to its end.
-/
set_option linter.unusedVariables false
namespace Go.Proofs.YtbgnagjhkfkekaaGreatDoor
open Go.RowKit Go.Shelf

attribute [local go_sem] Oper.semAt_some

/-- What the yield is told of an object. -/
abbrev encO (c : Cfg) (ws : Nat → Int) (a : Int) : Array Value := #[.int .i64 a, hdv c ws a]

theorem j_below {α : Type} {B : Nat} {J : (Nat → Prop) → List α → World → Prop} (h : OwnS B J) {S : Nat → Prop} {s : List α} {W W' : World} (hs : J S s W) (l : Below W.heap.size W W') : J (fun k => S k ∨ (W.heap.size ≤ k ∧ k < W'.heap.size)) s W' :=
  h S s W W' none hs ⟨l.os, l.tape, l.output, l.size, fun k hk _ => l.block k hk⟩ (fun r e => by cases e)

set_option maxRecDepth 100000 in
set_option maxHeartbeats 8000000 in
theorem walk_full (b g ca cs : Nat) (c : Cfg) (x : Tps) (sw : Bool) (ws : Nat → Int) (S : Int) (l : List Int) (p e : Int) (hp : Past c ws (x.top S) (fst c S) p) (hwk : Walk c ws (x.top S) p l e) (n0 : Nat) (w : World) (hI : It w b g ca cs c x sw ws S) (hn0 : n0 ≤ w.heap.size) (hbn : b < n0) (hgn : g < n0) (h0n : 1 < n0) (h1n : 0 < n0) :
    SeqFull Tryz.prog 136 #[.pointer (some ⟨ca, 0, none⟩), .pointer (some ⟨cs, 0, none⟩)] (encO c ws) l n0 (fun k => k = ca ∨ k = cs) w := fun n lp J W S0 hW hOw hJ hY h0 => by
  have hI' := hI.below hW
  refine callsIn_of_wp Tryz.func136 rfl trivial ?_ rfl
  simp only [Tryz.ntmps136, List.size_toArray, List.length_cons, List.length_nil, Nat.reduceAdd, Nat.reduceSub, Array.replicate_succ, Array.replicate_zero, List.push_toArray, List.append_toArray, List.nil_append, List.cons_append]
  have k1 := hI'.ca
  have k2 := hI'.cs
  have hx := extent_any b g c x sw ws S W hI'.ar
  obtain ⟨s0, s1, s2, s3⟩ := hI'.ar.sub_in S
  have wo := hI'.ar.words
  have hca := World.block_lt_of_cell? _ _ hI'.ca
  have hcs := World.block_lt_of_cell? _ _ hI'.cs
  have hSa := hOw ca (.inl rfl)
  have hSs := hOw cs (.inr rfl)
  have HI : Hid (It W b g ca cs c x sw ws S) := hI'
  have HIk : Hid (∀ W1 : World, Below n0 W W1 → W1.heap[ca]? = W.heap[ca]? → W1.heap[cs]? = W.heap[cs]? → It W1 b g ca cs c x sw ws S) := fun W1 lw e1 e2 => ⟨hI'.ar.keep (lw.block _ (by omega)) (lw.block _ (by omega)), hI'.laid.blocks (lw.block _ (by omega)) (lw.block _ (by omega)), (World.cell?_of_block (w := W) e1).trans hI'.ca, (World.cell?_of_block (w := W) e2).trans hI'.cs⟩
  have hnW : n0 ≤ W.heap.size := by have := hW.size; omega
  have HJ : Hid (OwnS W.heap.size J) := hJ
  have HY : Hid (∀ S pre x W1, J S pre W1 → pre ++ [x] <+: l → ∀ m, YieldAt Fence.wide m Tryz.prog lp (encO c ws x) W1 fun e W' => e = .returned (.bool true) ∧ J S (pre ++ [x]) W' ∧ (∀ k, S k → W'.heap[k]? = W1.heap[k]?) ∧ Below n0 W1 W') := hY
  clear hI hI' hJ hY hOw
  simp only at hca hcs
  generalize fst c S = f, bhd c S = q, x.top S = top at hx hp hwk s0 s1 s2 s3
  gi_wp2
  refine ⟨trivial, fun h => (by cases h), (callsIn_wide.2 hx).mono ?_⟩
  rintro r w1 ⟨rfl, b1⟩
  have b2 := Below.alloc b1 b1.size (.cells (ecells f q top) 106)
  have hE : Ec (w1.alloc (.cells (ecells f q top) 106)) w1.heap.size f q top := ⟨heap_alloc_new w1 _⟩
  have hES := b1.size
  have i2 := HIk.out _ (b2.mono hnW) (b2.block _ hca) (b2.block _ hcs)
  have j2 := j_below HJ.out h0 b2
  have k1 := i2.ca
  have k2 := i2.cs
  have k3 := hE.c0
  have k4 := hE.c2
  have hpa := past_any b g c x sw ws top f p s0 (by omega) hp _ i2.ar i2.laid
  have hEin : W.heap.size ≤ w1.heap.size ∧ w1.heap.size < (w1.alloc (.cells (ecells f q top) 106)).heap.size := ⟨hES, by simp⟩
  clear i2 hx b1 h0
  gi_wp2
  refine ⟨trivial, fun h => (by cases h), (callsIn_wide.2 hpa).mono ?_⟩
  rintro r w3 ⟨rfl, b3⟩
  have b4 := b2.trans (b3.mono b2.size)
  have hE3 := hE.below b3
  have j3 := j_below HJ.out j2 b3
  have p0 := hp.ge
  clear hpa k1 k2 k3 k4 b2 hE j2 b3
  generalize w1.heap.size = E at *
  generalize (w1.alloc (.cells (ecells f q top) 106)).heap.size = sz at *
  gi_wp2
  gi_loopw [5] (fun v wr => ∃ a pre rest S', v = .int .i64 a ∧ 0 ≤ a ∧ l = pre ++ rest ∧ Walk c ws top a rest e ∧ J S' pre wr ∧ Below n0 W wr ∧ S' E ∧ Ec wr E f q top ∧ (S' ca ∧ S' cs) ∧ wr.heap[ca]? = W.heap[ca]? ∧ wr.heap[cs]? = W.heap[cs]?) (fun v _ => (top - intOf v).toNat)
  case atStart => exact ⟨p, [], l, _, rfl, by omega, rfl, hwk, j3, b4.mono hnW, .inl (.inr hEin), hE3, ⟨.inl (.inl hSa), .inl (.inl hSs)⟩, b4.block _ hca, b4.block _ hcs⟩
  case round =>
    obtain ⟨a, pre, rest, S', rfl, ha, hl, hw, hJr, btr, hSE, hEc, hSc, hea, hes⟩ := hrel
    have HEA : Hid (wr.heap[ca]? = W.heap[ca]? ∧ wr.heap[cs]? = W.heap[cs]?) := ⟨hea, hes⟩
    have HJr : Hid (J S' pre wr) := hJr
    have Hw : Hid (Walk c ws top a rest e) := hw
    clear hJr hw
    have hr := HIk.out wr btr hea hes
    have hwr : W.heap.size ≤ wr.heap.size := btr.size
    clear hea hes
    have k1 := hr.ca
    have k2 := hr.cs
    have k4 := hEc.c2
    by_cases hat : a < top
    · by_cases hs : Stands c ws top a
      · have hbl := below_yes b g c x sw ws top a ha hat (by omega) hs wr hr.ar hr.laid
        obtain ⟨l', a', hre, hpa, hw'⟩ : ∃ l' a', rest = a :: l' ∧ Past c ws top (a + osz c ws a) a' ∧ Walk c ws top a' l' e := by
          rcases Hw.out with ⟨h⟩ | ⟨_, h⟩ | ⟨_, _, h3, h4⟩
          · omega
          · exact absurd hs h
          · exact ⟨_, _, rfl, h3, h4⟩
        have Hw' : Hid (Walk c ws top a' l' e) := hw'
        clear hw' Hw
        subst hre
        have hpre : pre ++ [a] <+: l := ⟨l', by rw [hl]; simp⟩
        have hz := osz_in c ws a
        have hzl := hs.2
        obtain ⟨n', hn⟩ : ∃ n' : Nat, osz c ws a = n' := Int.eq_ofNat_of_zero_le (by omega)
        have hpg := hpa.ge
        have hyi : ∀ S1 W1, J S1 pre W1 → _ := fun S1 W1 hW1 => HY.out S1 pre a W1 hW1 hpre (n - 1)
        have hpas : ∀ W1, It W1 b g ca cs c x sw ws S → _ := fun W1 hW1 => past_any b g c x sw ws top (a + osz c ws a) a' (by omega) (by omega) hpa W1 hW1.ar hW1.laid
        simp only [obv, hn, Int.toNat_natCast] at hbl
        simp only [encO, hdv] at hyi
        rw [hn] at hz hzl hpg hpas
        clear hs hn hpa
        generalize wat c ws (a + 1) = sr, kdOf (wat c ws a) = K, ptOf (wat c ws a) = P, rwOf (wat c ws a) = R, agOf (wat c ws a) = A, stOf (wat c ws a) = T, hdOf (wat c ws a) = H at hbl hyi
        have Hyi : Hid (∀ S1 W1, J S1 pre W1 → YieldAt Fence.wide (n - 1) Tryz.prog lp #[.int .i64 a, hv sr K P R A T H] W1 fun e W' => e = .returned (.bool true) ∧ J S1 (pre ++ [a]) W' ∧ (∀ k, S1 k → W'.heap[k]? = W1.heap[k]?) ∧ Below n0 W1 W') := hyi
        have Hpas : Hid (∀ W1, It W1 b g ca cs c x sw ws S → Calls Tryz.prog 129 #[.pointer (some ⟨b, 0, none⟩), .int .i64 top, .int .i64 (a + n')] W1 fun r w' => r = .returned (.int .i64 a') ∧ Below W1.heap.size W1 w') := hpas
        clear hyi hpas hr
        gi_wp2
        refine ⟨trivial, fun h => (by cases h), (callsIn_wide.2 hbl).mono ?_⟩
        rintro r w4 ⟨rfl, b5⟩
        have b6 := Below.alloc b5 b5.size (.cells (ocells sr K P R A T H (.slice (some ⟨g, a.toNat, none⟩) n' n')) 124)
        have o6 := Oc.new w4 (ocells sr K P R A T H (.slice (some ⟨g, a.toNat, none⟩) n' n'))
        have hEc6 := hEc.below b6
        have hwrn : n0 ≤ wr.heap.size := Nat.le_trans hnW btr.size
        have btr6 := btr.trans (b6.mono hwrn)
        have j6 := j_below HJ.out HJr.out b6
        have HB6 : Hid ((w4.alloc (.cells (ocells sr K P R A T H (.slice (some ⟨g, a.toNat, none⟩) n' n')) 124)).heap[ca]? = W.heap[ca]? ∧ (w4.alloc (.cells (ocells sr K P R A T H (.slice (some ⟨g, a.toNat, none⟩) n' n')) 124)).heap[cs]? = W.heap[cs]?) := ⟨(b6.block _ (by omega)).trans HEA.out.1, (b6.block _ (by omega)).trans HEA.out.2⟩
        obtain ⟨fn, tmps, assign, body, hy, hR⟩ := Hyi.out _ _ j6
        have hS6 : wr.heap.size ≤ w4.heap.size ∧ w4.heap.size < (w4.alloc (.cells (ocells sr K P R A T H (.slice (some ⟨g, a.toNat, none⟩) n' n')) 124)).heap.size := ⟨b5.size, by simp⟩
        have z0 := o6.cell 0
        have z1 := o6.cell 1
        have z2 := o6.cell 2
        have z3 := o6.cell 3
        have z4 := o6.cell 4
        have z5 := o6.cell 5
        have z6 := o6.cell 6
        clear hbl k1 k2 k4 HJr j6 b5 b6
        gi_wp2
        refine ⟨fun h => (by cases h), hR.mono ?_⟩
        rintro e' w6 ⟨rfl, hJ7, hS7, hk7⟩
        have btr7 := btr6.trans hk7
        have hE7 : Ec w6 E f q top := ⟨(hS7 E (.inl hSE)).trans hEc6.at_⟩
        have o7 : Oc w6 w4.heap.size (ocells sr K P R A T H (.slice (some ⟨g, a.toNat, none⟩) n' n')) := ⟨(hS7 _ (.inr hS6)).trans o6.at_⟩
        have HB7 : Hid (w6.heap[ca]? = W.heap[ca]? ∧ w6.heap[cs]? = W.heap[cs]?) := ⟨(hS7 _ (.inl hSc.1)).trans HB6.out.1, (hS7 _ (.inl hSc.2)).trans HB6.out.2⟩
        have r7 := HIk.out w6 btr7 HB7.out.1 HB7.out.2
        have hw6 : W.heap.size ≤ w6.heap.size := btr7.size
        have k1 := r7.ca
        have k4 := hE7.c2
        have z7 : w6.cell? ⟨w4.heap.size, 7, none⟩ = some (.slice (some ⟨g, a.toNat, none⟩) n' n') := o7.cell 7
        have hpc := Hpas.out w6 r7
        have HJ7 : Hid (J _ (pre ++ [a]) w6) := hJ7
        have hS7E : Hid (S' E) := hSE
        clear r7 o7 hS7 hk7 hEc6 btr6 o6 hy hR z0 z1 z2 z3 z4 z5 z6 hJ7 hS6 hSE
        gi_wp2
        refine ⟨trivial, fun h => (by cases h), (callsIn_wide.2 hpc).mono ?_⟩
        rintro r w7 ⟨rfl, b8⟩
        have hB8 : w7.heap[ca]? = W.heap[ca]? ∧ w7.heap[cs]? = W.heap[cs]? := ⟨(b8.block _ (by omega)).trans HB7.out.1, (b8.block _ (by omega)).trans HB7.out.2⟩
        have hE8 := hE7.below b8
        have HB8 : Hid (w7.heap[ca]? = W.heap[ca]? ∧ w7.heap[cs]? = W.heap[cs]?) := hB8
        clear hB8
        have j8 := j_below HJ.out HJ7.out b8
        have btr8 := btr7.trans (b8.mono (Nat.le_trans hnW btr7.size))
        clear hpc k1 k4 z7 b8 hE7 HJ7 btr7
        gi_wp2
        go_roundw
        case rel => exact ⟨a', pre ++ [a], l', _, rfl, by omega, by rw [hl]; simp, Hw'.out, j8, btr8, .inl (.inl hS7E.out), hE8, ⟨.inl (.inl hSc.1), .inl (.inl hSc.2)⟩, HB8.out.1, HB8.out.2⟩
        case measure => simp [intOf]; omega
      · have hbl := below_no b g c x sw ws top a ha hat (by omega) hs wr hr.ar hr.laid
        have hre : rest = [] := by
          rcases Hw.out with _ | _ | ⟨_, h2, _, _⟩
          · rfl
          · rfl
          · exact absurd h2 hs
        clear hr
        gi_wp2
        refine ⟨trivial, fun h => (by cases h), (callsIn_wide.2 hbl).mono ?_⟩
        rintro r w4 ⟨rfl, b5⟩
        have j6 := j_below HJ.out HJr.out (Below.alloc b5 b5.size (.cells ozero 124))
        clear hbl
        gi_wp2
        refine ⟨fun f h => (by cases h), ?_⟩
        gi_wp2
        go_returns
        subst hre
        rw [List.append_nil] at hl
        subst hl
        exact ⟨⟨_, rfl⟩, _, j6⟩
    · have hre : rest = [] := by
        rcases Hw.out with _ | _ | ⟨h2, _, _, _⟩
        · rfl
        · rfl
        · exact absurd h2 hat
      clear hr
      gi_wp2
      go_end0
      subst hre
      rw [List.append_nil] at hl
      subst hl
      exact ⟨⟨_, rfl⟩, S', HJr.out⟩

end Go.Proofs.YtbgnagjhkfkekaaGreatDoor

/-
  A range over an iterator whose round boxes a variable first.
-/
set_option linter.unusedVariables false
namespace Go.Proofs.YtbgnagjhkfkekaaGreatDoor
open Go.RowKit Go.Shelf

theorem range_fullA {α : Type} {P : Program} {n : Nat} {g : Operand} {ps : Array Tmp} {assign body : Code} {Q : Exit → Act → World → Prop} {a : Act} {w w0 : World} {gf n0 : Nat} {lb : Array Value} {encs : α → Array Value} {xs : List α} {S0 Own : Nat → Prop}
    (hg : a.eval g = .func (.func gf) #[] lb) (eg : ∀ args w, (callFunc gf args).run P w = .ok (.enter gf args) w) (hseq : SeqFull P gf lb encs xs n0 Own w0) (hOwn : ∀ k, Own k → S0 k) (hb0 : Below w0.heap.size w0 w) (hn0 : n0 ≤ w.heap.size) (hps : ∀ x, (encs x).size = ps.size)
    (I : (Nat → Prop) → List α → World → Prop) (hI : OwnS w.heap.size I) (h0 : I S0 [] w) (a1 : α → Nat → Act) (obj : α → Obj) (hImono : ∀ S S' pre W, I S' pre W → (∀ k, S k → S' k) → I S pre W) (hIlt : ∀ S pre W, I S pre W → ∀ k, S k → k < W.heap.size)
    (hassign : ∀ (l : Nat) (x : α) (W : World) (K : Act → World → Prop) (m : Nat), K (a1 x W.heap.size) (W.alloc (obj x)) →
      assign.wpIn (Fence.wide.inRound l) m P (Exit.then K (fun _ _ _ => False)) { tmps := (ps.zip (encs x)).foldl (fun t (p, v) => t.setIfInBounds p v) a.tmps, defers := [] } W)
    (hbody : ∀ (l : Nat) (S : Nat → Prop) (pre : List α) (x : α) (H : Nat) (W : World) (m : Nat), I S pre W → pre ++ [x] <+: xs → W.heap[H]? = some (obj x) → body.wpIn (Fence.wide.inRound l) m P (goesOn n0 I S (pre ++ [x]) W) (a1 x H) W)
    (hdone : ∀ (D : Nat) (S : Nat → Prop) (W : World), w.heap.size ≤ D → I S xs W → W.heap[D]? = some (.deferred (some [])) → Q .normal { a with defers := { target := .collected D, args := #[] } :: a.defers } W) :
    (Code.rangeFunc g ps assign body).wpIn Fence.wide n P Q a w := by
  refine wpIn_rangeFunc ?_
  intro fn hfn
  obtain ⟨lp, hlp⟩ : ∃ lp : LoopState → Loop, lp = fun st => { state := st, pending := none, fn, tmps := a.tmps, params := ps, assign, body, defers := w.heap.size } := ⟨_, rfl⟩
  obtain ⟨W1, hW1⟩ : ∃ W1, W1 = (w.alloc (.deferred (some []))).alloc (.loop (lp .ready)) := ⟨_, rfl⟩
  have hL1 : W1.heap[w.heap.size + 1]? = some (.loop (lp .ready)) := by
    have := World.alloc_heap_new (w.alloc (.deferred (some []))) (.loop (lp .ready))
    rw [World.size_alloc] at this; rw [hW1]; exact this
  have hK1 : W1.heap[w.heap.size]? = some (.deferred (some [])) := by
    rw [hW1]; exact (Below.heap_alloc _ _ _ (by simp)).trans (World.alloc_heap_new w _)
  have hsz : W1.heap.size = w.heap.size + 2 := by rw [hW1]; simp
  have hI1 : ∃ S1 : Nat → Prop, I S1 [] W1 ∧ S1 w.heap.size ∧ S1 (w.heap.size + 1) ∧ (∀ k, S0 k → S1 k) := by
    rw [hW1]; exact ⟨_, hI.alloc (hI.alloc h0 _) _, .inl (.inr ⟨Nat.le_refl _, by simp⟩), .inr ⟨by simp, by simp⟩, fun k h => .inl (.inl h)⟩
  obtain ⟨S1, hI1, hd1, he1, hs1⟩ := hI1
  have hb1 : Below w0.heap.size w0 W1 := by
    rw [hW1]; exact (hb0.alloc hb0.size _).alloc (by have := hb0.size; simp; omega) _
  refine ⟨w.heap.size + 1, [{ target := .collected w.heap.size, args := #[] }], W1, { target := .fn (.func gf) lb, args := #[.func (.yield (w.heap.size + 1)) #[] #[]] }, W1, gf,
    #[.func (.yield (w.heap.size + 1)) #[] #[]] ++ lb, W1, ?_, ?_, ?_, ?_, ?_, ?_⟩
  · rw [hW1, hlp]; exact run_enterLoop_outer _ _ _ _ _
  · simp only [resolve, hg]
    simp [go_sem]
  · intro _ _; trivial
  · simp [invoke, go_sem, eg]
  · intro h; cases h
  · -- the two blocks of book-keeping stand beside the caller's invariant
    refine (hseq _ (w.heap.size + 1) (fun S pre W => I S pre W ∧ (S w.heap.size ∧ S (w.heap.size + 1)) ∧ W.heap[w.heap.size + 1]? = some (.loop (lp .ready)) ∧ W.heap[w.heap.size]? = some (.deferred (some []))) W1 S1 hb1 (fun k h => hs1 k (hOwn k h)) ?_ ?_ ⟨hI1, ⟨hd1, he1⟩, hL1, hK1⟩).mono ?_
    · intro S s A B row hs hgr hr
      have hkeep : ∀ k o, k < W1.heap.size → A.heap[k]? = some o → B.heap[k]? = some o := fun k o hk ho =>
        (hgr.block k (Array.getElem?_eq_some_iff.1 ho).1 (fun e => by have := (hr k e.symm).1; omega)).trans ho
      exact ⟨hI S s A B row hs.1 hgr (fun r e => ⟨by have := (hr r e).1; omega, (hr r e).2⟩), ⟨.inl hs.2.1.1, .inl hs.2.1.2⟩, hkeep _ _ (by omega) hs.2.2.1, hkeep _ _ (by omega) hs.2.2.2⟩
    · rintro S pre x W ⟨hi, ⟨hSd, hSl⟩, hl, hk⟩ hpre m
      have hy := run_yield (P := P) (args := encs x) hl (by rw [hlp]; exact hps x)
      rw [hlp] at hy
      refine ⟨fn, _, assign, body, hy, roundIn_of_wpIn hfn (hassign _ x W _ _ ?_)⟩
      clear hy
      have hlt : w.heap.size + 1 < W.heap.size := (Array.getElem?_eq_some_iff.1 hl).1
      have hwl : w.heap.size < W.heap.size := by omega
      have hb0 : Below n0 W (W.alloc (obj x)) := Below.alloc (Below.refl _ _) (by omega) _
      have hi0 := hI.alloc hi (obj x)
      have hl0 : (W.alloc (obj x)).heap[w.heap.size + 1]? = some (.loop (lp .ready)) := (Below.heap_alloc _ _ _ hlt).trans hl
      have hk0 : (W.alloc (obj x)).heap[w.heap.size]? = some (.deferred (some [])) := (Below.heap_alloc _ _ _ hwl).trans hk
      have hH0 : (W.alloc (obj x)).heap[W.heap.size]? = some (obj x) := World.alloc_heap_new W (obj x)
      have hlt0 : w.heap.size + 1 < (W.alloc (obj x)).heap.size := (Array.getElem?_eq_some_iff.1 hl0).1
      have hol0 : ∀ k, k < W.heap.size → (W.alloc (obj x)).heap[k]? = W.heap[k]? := fun k hk => Below.heap_alloc _ _ _ hk
      have hSW := hIlt S pre W hi
      have hHl : W.heap.size ≠ w.heap.size + 1 := by omega
      obtain ⟨S', hS', hSS, hi0⟩ : ∃ S' : Nat → Prop, (∀ k, S' k → S k ∨ W.heap.size ≤ k) ∧ (∀ k, S k → S' k) ∧ I S' pre (W.alloc (obj x)) := ⟨_, fun k h => h.imp id And.left, fun k h => .inl h, hi0⟩
      generalize hW0 : W.alloc (obj x) = W0 at *
      refine ⟨_, run_beginRound hl0 (by rw [hlp]), ?_⟩
      have hl2 : (W0.putObj (w.heap.size + 1) (.loop { lp .ready with state := .busy })).heap[w.heap.size + 1]? = some (.loop { lp .ready with state := .busy }) := World.putObj_heap_same hlt0
      have hB2 : Below n0 W0 (W0.putObj (w.heap.size + 1) (.loop { lp .ready with state := .busy })) := belowK_b (w := w) hn0 _ _ _ _ (by omega) hl0 rfl rfl
      have ho2 : ∀ k, k ≠ w.heap.size + 1 → (W0.putObj (w.heap.size + 1) (.loop { lp .ready with state := .busy })).heap[k]? = W0.heap[k]? := fun k hk => World.putObj_heap_other hk
      refine wpIn_mono (hbody _ S' pre x W.heap.size _ _ (hI.putObj _ hi0 (by omega) hl0 rfl) hpre ((ho2 _ hHl).trans hH0)) ?_
      rintro e a3 W3 hp
      cases e with
      | normal =>
        obtain ⟨hk3, hb3, hi3⟩ := hp
        have hl3 := (hk3 _ (hSS _ hSl)).trans hl2
        have hr := run_endRound (P := P) none hl3
        have hst : { ({ lp .ready with state := .busy } : Loop) with state := if (none : Option Code).isNone then .ready else .done, pending := none } = lp .ready := by rw [hlp]; rfl
        rw [hst] at hr
        have hl4 : (W3.putObj (w.heap.size + 1) (.loop (lp .ready))).heap[w.heap.size + 1]? = some (.loop (lp .ready)) := World.putObj_heap_same (Array.getElem?_eq_some_iff.1 hl3).1
        refine ⟨_, _, hr, rfl, ⟨hI.putObj _ (hImono _ _ _ _ hi3 hSS) (by omega) hl3 rfl, ⟨hSd, hSl⟩, hl4, ?_⟩, ?_, hb0.trans ((hB2.trans hb3).trans (belowK_b (w := w) hn0 _ _ _ _ (by omega) hl3 rfl rfl))⟩
        · exact (World.putObj_heap_other (by omega)).trans ((hk3 _ (hSS _ hSd)).trans ((ho2 _ (by omega)).trans hk0))
        · intro k hSk
          by_cases hkl : k = w.heap.size + 1
          · subst hkl; rw [hl4, hl]
          · rw [World.putObj_heap_other hkl, hk3 k (hSS k hSk), ho2 k hkl, hol0 k (hSW k hSk)]
      | ret => exact hp.elim
      | exit id => exact hp.elim
      | goto t => exact hp.elim
      | panic ch => exact hp.elim
      | outgrown => exact hp.elim
    · rintro e W2 ⟨⟨v, rfl⟩, S, hi, -, hl, hk⟩
      have hr := run_endLoop (P := P) hl (by rw [hlp]; simp)
      refine ⟨_, _, hr, ?_⟩
      have := hdone w.heap.size S _ (Nat.le_refl _) (hI.putObj (.loop { lp .ready with state := .exhausted }) hi (by omega) hl rfl) ((World.putObj_heap_other (by omega)).trans hk)
      rw [hlp] at this ⊢
      exact this

end Go.Proofs.YtbgnagjhkfkekaaGreatDoor

/-
  Check of an arena whose walks all come to their tops.
-/
set_option linter.unusedVariables false
namespace Go.Proofs.YtbgnagjhkfkekaaGreatDoor
open Go.RowKit Go.Shelf

theorem walk_in {c : Cfg} {ws : Nat → Int} {top p e : Int} {l : List Int} (h : Walk c ws top p l e) : 0 ≤ p → ∀ y ∈ l, 0 ≤ y ∧ y < top := by
  induction h with
  | done _ => intro _ y hy; simp at hy
  | fail _ _ => intro _ y hy; simp at hy
  | @obj a a' _ _ ht _ hp _ ih =>
    intro h0 y hy
    rcases List.mem_cons.1 hy with rfl | hy
    · exact ⟨h0, ht⟩
    · exact ih (by have := hp.ge; have := osz_in c ws a; omega) y hy

/-- A space's walk comes to its top. -/
def Comes (c : Cfg) (x : Tps) (ws : Nat → Int) (s : Int) : Prop := ∃ l p, Past c ws (x.top s) (fst c s) p ∧ Walk c ws (x.top s) p l (x.top s)

end Go.Proofs.YtbgnagjhkfkekaaGreatDoor

/-
  A piece of the words that objects and fillers fill.
-/
set_option linter.unusedVariables false
namespace Go.Proofs.YtbgnagjhkfkekaaGreatDoor
open Go.RowKit Go.Shelf

/-- From a to b there are objects and fillers without a gap; l: the objects. -/
inductive Seg (c : Cfg) (ws : Nat → Int) : Int → Int → List Int → Prop
  | nil {a : Int} : Seg c ws a a []
  | fil {a b : Int} {l : List Int} (ht : IsTag 3 (wat c ws a)) (r : Seg c ws (a + wat c ws a / 4) b l) : Seg c ws a b l
  | obj {a b : Int} {l : List Int} (hh : IsHead (wat c ws a)) (r : Seg c ws (a + osz c ws a) b l) : Seg c ws a b (a :: l)

theorem Seg.le {c : Cfg} {ws : Nat → Int} {a b : Int} {l : List Int} (h : Seg c ws a b l) : a ≤ b := by
  induction h with
  | nil => exact Int.le_refl _
  | fil ht _ ih => have := ht.2.1; omega
  | @obj a _ _ _ _ ih => have := osz_in c ws a; omega

theorem Seg.ge {c : Cfg} {ws : Nat → Int} {a b : Int} {l : List Int} (h : Seg c ws a b l) : ∀ y ∈ l, a ≤ y ∧ y + osz c ws y ≤ b := by
  induction h with
  | nil => intro y hy; simp at hy
  | fil ht _ ih => intro y hy; have := ih y hy; have := ht.2.1; omega
  | @obj a _ _ _ r ih =>
    intro y hy
    rcases List.mem_cons.1 hy with rfl | hy
    · exact ⟨Int.le_refl _, r.le⟩
    · have := ih y hy; have := osz_in c ws a; omega

theorem Seg.head {c : Cfg} {ws : Nat → Int} {a b : Int} {l : List Int} (h : Seg c ws a b l) : ∀ y ∈ l, IsHead (wat c ws y) := by
  induction h with
  | nil => intro y hy; simp at hy
  | fil _ _ ih => exact ih
  | obj hh _ ih =>
    intro y hy
    rcases List.mem_cons.1 hy with rfl | hy
    · exact hh
    · exact ih y hy

theorem head_no_tag {m : Int} (h : IsHead m) : ¬ IsTag 3 m := fun t => by have := h.1; have := t.1; omega

/-- Its walk meets just the objects and comes to its end. -/
theorem Seg.walk {c : Cfg} {ws : Nat → Int} {a b : Int} {l : List Int} (h : Seg c ws a b l) : ∃ p, Past c ws b a p ∧ Walk c ws b p l b := by
  induction h with
  | nil => exact ⟨_, .done (.inl (Int.le_refl _)), .done (Int.le_refl _)⟩
  | @fil a b l ht r ih =>
    obtain ⟨p, h1, h2⟩ := ih
    have := r.le
    have := ht.2.1
    exact ⟨p, .step (by omega) ht (by omega) h1, h2⟩
  | @obj a b l hh r ih =>
    obtain ⟨p, h1, h2⟩ := ih
    have := r.le
    have := osz_in c ws a
    exact ⟨a, .done (.inr fun h => head_no_tag hh h.1), .obj (by omega) ⟨hh, by omega⟩ h1 h2⟩

theorem Seg.snoc {c : Cfg} {ws : Nat → Int} {a b : Int} {l : List Int} (h : Seg c ws a b l) (hh : IsHead (wat c ws b)) : Seg c ws a (b + osz c ws b) (l ++ [b]) := by
  induction h with
  | nil => exact .obj hh .nil
  | fil ht _ ih => exact .fil ht (ih hh)
  | obj h1 _ ih => exact .obj h1 (ih hh)

theorem Seg.snocF {c : Cfg} {ws : Nat → Int} {a b : Int} {l : List Int} (h : Seg c ws a b l) (ht : IsTag 3 (wat c ws b)) : Seg c ws a (b + wat c ws b / 4) l := by
  induction h with
  | nil => exact .fil ht .nil
  | fil h1 _ ih => exact .fil h1 (ih ht)
  | obj h1 _ ih => exact .obj h1 (ih ht)

/-- Words elsewhere don't matter. -/
theorem Seg.congr {c : Cfg} {ws ws' : Nat → Int} {a b : Int} {l : List Int} (h : Seg c ws a b l) (he : ∀ i, a ≤ i → i < b → wat c ws' i = wat c ws i) : Seg c ws' a b l := by
  induction h with
  | nil => exact .nil
  | @fil a b l ht r ih =>
    have h1 := ht.2.1
    have h2 := r.le
    have e := he a (Int.le_refl _) (by omega)
    exact .fil (by rw [e]; exact ht) (by rw [e]; exact ih (fun i h3 h4 => he i (by omega) h4))
  | @obj a b l hh r ih =>
    have h1 := osz_in c ws a
    have h2 := r.le
    have e := he a (Int.le_refl _) (by omega)
    have eo : osz c ws' a = osz c ws a := by unfold osz; rw [e]
    exact .obj (by rw [e]; exact hh) (by rw [eo]; exact ih (fun i h3 h4 => he i (by omega) h4))

/-- A word within an object of l, behind its first, is written; and the first one, if it stays a header of these sizes. -/
theorem Seg.inner {c : Cfg} {ws ws' : Nat → Int} {a b o : Int} {l : List Int} (h : Seg c ws a b l) (ho : o ∈ l) (he : ∀ i, (i < o ∨ o + osz c ws o ≤ i) → wat c ws' i = wat c ws i) (hh' : IsHead (wat c ws' o)) (hp : ptOf (wat c ws' o) = ptOf (wat c ws o)) (hr : rwOf (wat c ws' o) = rwOf (wat c ws o)) : Seg c ws' a b l := by
  induction h with
  | nil => simp at ho
  | @fil a b l ht r ih =>
    have h1 := ht.2.1
    have h2 := (r.ge o ho).1
    have e := he a (.inl (by omega))
    exact .fil (by rw [e]; exact ht) (by rw [e]; exact ih ho)
  | @obj a b l hh r ih =>
    have h1 := osz_in c ws a
    by_cases hoa : o = a
    · subst hoa
      have eo : osz c ws' o = osz c ws o := by unfold osz; rw [hp, hr]
      exact .obj hh' (by rw [eo]; exact r.congr (fun i h3 _ => he i (.inr h3)))
    · rcases List.mem_cons.1 ho with rfl | ho
      · exact absurd rfl hoa
      · have h2 := (r.ge o ho).1
        have e := he a (.inl (by omega))
        have eo : osz c ws' a = osz c ws a := by unfold osz; rw [e]
        exact .obj (by rw [e]; exact hh) (by rw [eo]; exact ih ho)

end Go.Proofs.YtbgnagjhkfkekaaGreatDoor

