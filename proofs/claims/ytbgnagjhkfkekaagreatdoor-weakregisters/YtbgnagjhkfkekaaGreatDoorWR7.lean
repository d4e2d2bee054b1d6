/-
  WeakRegisters: Update.
-/
import Derived.Test.YtbgnagjhkfkekaaGreatDoorPWd
set_option linter.unusedVariables false
set_option maxRecDepth 20000
namespace Go.Proofs.YtbgnagjhkfkekaaGreatDoor
open Go.RowKit Go.Shelf

theorem wrap_in (z : Int) : InI (wrap64 z) := by
  unfold InI wrap64
  omega

/-- What Update holds between two rounds. -/
def Upg (w : World) (tb B : Nat) (k : Int) (S : Nat → Prop) (pre : List Int) (W : World) : Prop :=
  ∃ v sv, Boxed W B 27 v ∧ W.ownsRow w.heap.size 3 1 v pre.length (ints (pre.map (fun a => wrap64 (a + k)))) ∧ Tu W w.heap.size tb k sv pre ∧ (∀ q, v.ownBlock = some q → sv.ownBlock ≠ some q) ∧ ¬ S B ∧ ¬ S tb ∧ (∀ g, v.ownBlock = some g → ¬ S g) ∧ (∀ g, sv.ownBlock = some g → ¬ S g) ∧ (∀ q, S q → q < W.heap.size) ∧ Touch [tb] w W ∧ Boxed W w.heap.size 76 (.func (.func 17) #[.pointer (some ⟨tb, 0, none⟩)] #[])

theorem own_cells {w : World} {base n e : Nat} {v : Value} {xs : List Value} (h : w.ownsRow base e 1 v n xs) (q : Nat) (hq : v.ownBlock = some q) : ∃ cs, w.heap[q]? = some (.cells cs e (0, 0)) ∧ base ≤ q := by
  rcases h.2 with ⟨e, _⟩ | ⟨g, cap, cur, e, hb, hg, _⟩
  · rw [e] at hq; simp [Value.ownBlock] at hq
  · rw [e] at hq
    simp [Value.ownBlock] at hq
    subst hq
    exact ⟨_, hg, hb⟩

theorem upg_own (w : World) (tb B : Nat) (k : Int) (B0 : Nat) (hB : w.heap.size ≤ B0) : OwnS B0 (Upg w tb B k) := by
  rintro S s X Y row ⟨v, sv, hb, hr, hT, hd, h1, h2, h3, h4, h5, h6, h7⟩ hg hrow
  have hcell : ∀ (q : Nat) (cs : Array Value) (t : TypeId), X.heap[q]? = some (Obj.cells cs t (0, 0)) → Y.heap[q]? = X.heap[q]? := fun q cs t hq =>
    hg.block q (Array.getElem?_eq_some_iff.1 hq).1 (fun e => by
      obtain ⟨_, o, ho, hc⟩ := hrow q e.symm
      rw [hq] at ho; cases ho; cases hc)
  have hn : ∀ (q : Nat) (cs : Array Value) (t : TypeId), X.heap[q]? = some (Obj.cells cs t (0, 0)) → ¬ S q → ¬ (S q ∨ (X.heap.size ≤ q ∧ q < Y.heap.size)) := fun q cs t hq hs h9 => by
    have := (Array.getElem?_eq_some_iff.1 hq).1
    rcases h9 with h9 | h9
    · exact hs h9
    · omega
  refine ⟨v, sv, (hcell B _ _ hb).trans hb, row_keep hr (fun q hq => ?_), hT.keep (hcell tb _ _ hT.own) (fun q hq => ?_), hd, hn B _ _ hb h1, hn tb _ _ hT.own h2, fun q hq => ?_, fun q hq => ?_, fun q hq => ?_, ?_, (hcell _ _ _ h7).trans h7⟩
  · obtain ⟨cs, hc, -⟩ := own_cells hr q hq
    exact hcell q _ _ hc
  · obtain ⟨cs, hc, -⟩ := own_cells hT.row q hq
    exact hcell q _ _ hc
  · obtain ⟨cs, hc, -⟩ := own_cells hr q hq
    exact hn q _ _ hc (h3 q hq)
  · obtain ⟨cs, hc, -⟩ := own_cells hT.row q hq
    exact hn q _ _ hc (h4 q hq)
  · rcases hq with hq | hq
    · have := h5 q hq; have := hg.size; omega
    · exact hq.2
  · exact ⟨hg.os.trans h6.os, hg.tape.trans h6.tape, hg.output.trans h6.output, Nat.le_trans h6.size hg.size, fun q hq hm => (hg.block q (Nat.lt_of_lt_of_le hq h6.size) (fun e => by have := (hrow q e.symm).1; omega)).trans (h6.block q hq hm)⟩

/-- One more. -/
theorem upg_step {w W W1 w4 : World} {tb B : Nat} {k x : Int} {S : Nat → Prop} {pre : List Int} {v v' sv sv' : Value} {tmp : Obj} {a : Act} (htb : tb < w.heap.size) (hB : w.heap.size < B) (h7 : Boxed W w.heap.size 76 (.func (.func 17) #[.pointer (some ⟨tb, 0, none⟩)] #[]))
    (hv : Boxed W B 27 v) (hrow : W.ownsRow w.heap.size 3 1 v pre.length (ints (pre.map (fun a => wrap64 (a + k))))) (hT : Tu W w.heap.size tb k sv pre) (hd : ∀ q, v.ownBlock = some q → sv.ownBlock ≠ some q) (h1 : ¬ S B) (h2 : ¬ S tb) (h3 : ∀ g, v.ownBlock = some g → ¬ S g) (h4 : ∀ g, sv.ownBlock = some g → ¬ S g) (h5 : ∀ q, S q → q < W.heap.size) (h6 : Touch [tb] w W)
    (hT1 : Tu W1 w.heap.size tb k sv' (pre ++ [x])) (t1 : Touch (tb :: sv.ownBlock.toList) W W1) (hs1 : sv'.ownBlock = sv.ownBlock ∨ ∃ q, sv'.ownBlock = some q ∧ W.heap.size ≤ q)
    (hown : w4.ownsRow w.heap.size 3 1 v' (pre.length + 1) (ints (pre.map (fun a => wrap64 (a + k))) ++ [.int .i64 (wrap64 (x + k))])) (hgrow : (W1.alloc tmp).grownBy w4 v.ownBlock) (hat : v'.ownBlock = v.ownBlock ∨ v'.ownBlock = some (W1.alloc tmp).heap.size) :
    goesOn tb (Upg w tb B k) S (pre ++ [x]) W .normal a (w4.setCell ⟨B, 0, none⟩ v') := by
  have hBl := hv.lt
  have htl := hT.lt
  have hBt : B ≠ tb := by omega
  have hvB : ∀ q, v.ownBlock = some q → q ≠ B ∧ q ≠ tb := fun q hq => by
    obtain ⟨cs, hc, hb⟩ := own_cells hrow q hq
    exact ⟨fun e => by subst e; rw [show W.heap[q]? = _ from hv] at hc; simp at hc, by omega⟩
  have hsB : ∀ q, sv.ownBlock = some q → q ≠ B ∧ q ≠ tb := fun q hq => by
    obtain ⟨cs, hc, hb⟩ := own_cells hT.row q hq
    exact ⟨fun e => by subst e; rw [show W.heap[q]? = _ from hv] at hc; simp at hc, by omega⟩
  have hsz1 := t1.size
  have hsz4 := hgrow.size
  simp at hsz4
  -- what lay in W and is neither the turner's nor the list's nor the box
  have key : ∀ q, q < W1.heap.size → q ≠ B → v.ownBlock ≠ some q → (w4.setCell ⟨B, 0, none⟩ v').heap[q]? = W1.heap[q]? := fun q hq hb hn => by
    rw [Below.heap_setCell _ _ _ _ hb, hgrow.block q (by simp; omega) (fun e => hn e.symm), Below.heap_alloc _ _ _ hq]
  have keyW : ∀ q, q < W.heap.size → q ≠ B → q ≠ tb → v.ownBlock ≠ some q → sv.ownBlock ≠ some q → (w4.setCell ⟨B, 0, none⟩ v').heap[q]? = W.heap[q]? := fun q hq hb ht hn hs => by
    rw [key q (by omega) hb hn]
    exact t1.block q hq (by simp only [List.mem_cons, Option.mem_toList, not_or]; exact ⟨ht, hs⟩)
  have hv4 : w4.heap[B]? = some (.cells #[v] 27 (0, 0)) := by
    rw [hgrow.block B (by simp; omega) (fun e => (hvB B e.symm).1 rfl), Below.heap_alloc _ _ _ (by omega), t1.block B hBl (by simp only [List.mem_cons, Option.mem_toList, not_or]; exact ⟨hBt, fun e => (hsB B e).1 rfl⟩)]
    exact hv
  have hvq' : ∀ q, v'.ownBlock = some q → v.ownBlock = some q ∨ W1.heap.size < q := fun q hq => by
    rcases hat with e | e
    · exact .inl (e ▸ hq)
    · rw [e] at hq
      simp at hq
      exact .inr (by omega)
  have hsq' : ∀ q, sv'.ownBlock = some q → (sv.ownBlock = some q ∨ W.heap.size ≤ q) ∧ q < W1.heap.size := fun q hq => by
    refine ⟨?_, row_lt hT1.row q hq⟩
    rcases hs1 with e | ⟨q', e, h9⟩
    · exact .inl (e ▸ hq)
    · rw [e] at hq
      simp at hq
      exact .inr (by omega)
  have hvt : ∀ q, sv'.ownBlock = some q → v.ownBlock ≠ some q := fun q hq e => by
    rcases (hsq' q hq).1 with h9 | h9
    · exact hd q e h9
    · have := row_lt hrow q e; omega
  have hsbB : ∀ q, sv'.ownBlock = some q → q ≠ B := fun q hq e => by
    rcases (hsq' q hq).1 with h9 | h9
    · exact (hsB q h9).1 e
    · omega
  have hrow4 : (w4.setCell ⟨B, 0, none⟩ v').ownsRow w.heap.size 3 1 v' (pre ++ [x]).length (ints ((pre ++ [x]).map (fun a => wrap64 (a + k)))) := by
    have h9 : w4.ownsRow w.heap.size 3 1 v' (pre ++ [x]).length (ints ((pre ++ [x]).map (fun a => wrap64 (a + k)))) := by
      have := hown
      simpa [ints] using this
    exact row_keep h9 (fun q hq => Below.heap_setCell _ _ _ _ (fun e => by
      simp at e
      subst e
      obtain ⟨cs, hc, -⟩ := own_cells h9 q hq
      rw [hv4] at hc
      simp at hc))
  refine ⟨fun q hq => keyW q (h5 q hq) (fun e => h1 (e ▸ hq)) (fun e => h2 (e ▸ hq)) (fun e => h3 q e hq) (fun e => h4 q e hq), ?_, v', sv', ?_, hrow4, hT1.keep (key tb (by omega) (fun e => hBt e.symm) (fun e => (hvB tb e).2 rfl)) (fun q hq => key q (hsq' q hq).2 (hsbB q hq) (hvt q hq)), fun q hq e => ?_, h1, h2, fun q hq h9 => ?_, fun q hq h9 => ?_, fun q hq => ?_, ?_, ?_⟩
  · refine ⟨(hgrow.os).trans t1.os, (hgrow.tape).trans t1.tape, (hgrow.output).trans t1.output, by simp [World.setCell]; omega, fun q hq => ?_⟩
    exact keyW q (by omega) (by omega) (by omega) (fun e => by obtain ⟨cs, hc, hb⟩ := own_cells hrow q e; omega) (fun e => by obtain ⟨cs, hc, hb⟩ := own_cells hT.row q e; omega)
  · unfold Boxed
    simp [World.setCell, Array.getElem?_modify, hv4]
  · rcases hvq' q hq with h9 | h9
    · exact hvt q e h9
    · have := (hsq' q e).2; omega
  · rcases hvq' q hq with h8 | h8
    · exact h3 q h8 h9
    · have := h5 q h9; omega
  · rcases (hsq' q hq).1 with h8 | h8
    · exact h4 q h8 h9
    · have := h5 q h9; omega
  · have := h5 q hq
    simp [World.setCell]
    omega
  · refine ⟨(hgrow.os).trans (t1.os.trans h6.os), (hgrow.tape).trans (t1.tape.trans h6.tape), (hgrow.output).trans (t1.output.trans h6.output), by have := h6.size; simp [World.setCell]; omega, fun q hq hm => ?_⟩
    have := h6.size
    simp at hm
    rw [keyW q (by omega) (by omega) hm (fun e => by obtain ⟨cs, hc, hb⟩ := own_cells hrow q e; omega) (fun e => by obtain ⟨cs, hc, hb⟩ := own_cells hT.row q e; omega)]
    exact h6.block q hq (by simpa using hm)
  · refine Eq.trans (keyW w.heap.size h7.lt (by omega) (by omega) (fun e => ?_) (fun e => ?_)) h7
    · obtain ⟨cs, hc, hb⟩ := own_cells hrow _ e
      rw [show W.heap[w.heap.size]? = _ from h7] at hc
      simp at hc
    · obtain ⟨cs, hc, hb⟩ := own_cells hT.row _ e
      rw [show W.heap[w.heap.size]? = _ from h7] at hc
      simp at hc

attribute [local go_sem] Oper.semAt_some

set_option maxRecDepth 100000 in
set_option maxHeartbeats 8000000 in
/-- Update with a turner that has seen nothing yet. -/
theorem wUpdate_any {w : World} {n1 rb ab mb mg n tb : Nat} {k : Int} {lv : Value} {l : List Int} {M : Nat → Bool} (H : Rg w n1 rb ab lv l mb mg n M) (hl : l.length ≤ 1000000) (hT : w.heap[tb]? = some (.cells #[.int .i64 k, .slice none 0 0] 74 (0, 0))) :
    Calls Tryz.prog 16 #[.pointer (some ⟨rb, 0, none⟩), .func (.func 17) #[.pointer (some ⟨tb, 0, none⟩)] #[]] w fun e w' => e = .returned (.tuple #[]) ∧ ∃ sv lv' M', Tu w' w.heap.size tb k sv l ∧ Rg w' n1 rb ab lv' (l.map (fun a => wrap64 (a + k))) mb mg n M' ∧ Touch [tb, rb, mg] w w' ∧ (∀ q, lv'.ownBlock = some q → w.heap.size ≤ q) ∧ (∀ q, sv.ownBlock = some q → lv'.ownBlock ≠ some q) := by
  refine (callsIn_wide (n := 9)).1 ?_
  obtain ⟨i0, hi, hz0, hz1, hz2⟩ := info_parts Tryz.infoInt
  have HR : Hid (Rg w n1 rb ab lv l mb mg n M) := H
  have htl : tb < w.heap.size := (Array.getElem?_eq_some_iff.1 hT).1
  have l1 : Below w.heap.size w (w.alloc (.cells #[.func (.func 17) #[.pointer (some ⟨tb, 0, none⟩)] #[]] 76)) := Below.alloc (Below.refl _ _) (Nat.le_refl _) _
  have l2 : Below w.heap.size w ((w.alloc (.cells #[.func (.func 17) #[.pointer (some ⟨tb, 0, none⟩)] #[]] 76)).alloc (.cells #[.slice none 0 0] 27)) := Below.alloc l1 l1.size _
  have b1 : Boxed ((w.alloc (.cells #[.func (.func 17) #[.pointer (some ⟨tb, 0, none⟩)] #[]] 76)).alloc (.cells #[.slice none 0 0] 27)) w.heap.size 76 (.func (.func 17) #[.pointer (some ⟨tb, 0, none⟩)] #[]) := (Below.heap_alloc _ _ _ (by simp)).trans (Boxed.new w 76 _)
  have b2 : Boxed ((w.alloc (.cells #[.func (.func 17) #[.pointer (some ⟨tb, 0, none⟩)] #[]] 76)).alloc (.cells #[.slice none 0 0] 27)) (w.heap.size + 1) 27 (.slice none 0 0) := by
    have := Boxed.new (w.alloc (.cells #[.func (.func 17) #[.pointer (some ⟨tb, 0, none⟩)] #[]] 76)) 27 (.slice none 0 0)
    simpa using this
  refine callsIn_of_wp_marks Tryz.func16 rfl trivial ?_ rfl
  simp only [Tryz.ntmps16, List.size_toArray, List.length_cons, List.length_nil, Nat.reduceAdd, Nat.reduceSub, Array.replicate_succ, Array.replicate_zero, List.push_toArray, List.append_toArray, List.nil_append, List.cons_append]
  gi_wp2
  have HH : Hid (∀ (B q : Nat), True) := fun _ _ => trivial
  generalize (w.alloc (.cells #[.func (.func 17) #[.pointer (some ⟨tb, 0, none⟩)] #[]] 76)).alloc (.cells #[.slice none 0 0] 27) = W1 at *
  refine ⟨trivial, (callsIn_wide.2 (wAll_any rb W1)).mono ?_⟩
  rintro r w2 ⟨bx, rfl, hbx, hx0, lx⟩
  have l3 : Below w.heap.size w w2 := l2.trans (lx.mono l2.size)
  have R2 := H.below l3
  have hseq := wAll1_full R2 hl hbx tb
  have c1 : Boxed w2 w.heap.size 76 (.func (.func 17) #[.pointer (some ⟨tb, 0, none⟩)] #[]) := (lx.block _ b1.lt).trans b1
  have c2 : Boxed w2 (w.heap.size + 1) 27 (.slice none 0 0) := (lx.block _ b2.lt).trans b2
  have T2 : Tu w2 w.heap.size tb k (.slice none 0 0) [] := ⟨(l3.block tb htl).trans hT, World.ownsRow_nil _ _ _ _⟩
  have hlvS : ∀ q, lv.ownBlock = some q → q < w.heap.size := fun q hq => row_lt H.row q hq
  have hlvt : ∀ q, lv.ownBlock = some q → q ≠ tb := fun q hq e => by
    subst e
    obtain ⟨cs, hc, -⟩ := own_cells H.row q hq
    rw [hT] at hc
    simp at hc
  clear l1 lx R2 HH
  gi_wp2
  refine range_full (S0 := fun q => lv.ownBlock = some q ∨ q = w.heap.size) (Own := fun q => lv.ownBlock = some q) (gf := 31) (lb := #[.pointer (some ⟨bx, 0, none⟩)]) (w0 := w2) (n0 := tb) (encs := fun x : Int => #[Value.int .i64 x]) (xs := l) rfl all1_enters hseq (fun q h => .inl h) (Below.refl _ _) (by have := l3.size; omega) (fun _ => rfl)
    (Upg w tb (w.heap.size + 1) k) (upg_own w tb _ k _ l3.size)
    ⟨.slice none 0 0, .slice none 0 0, c2, World.ownsRow_nil _ _ _ _, T2, by simp [Value.ownBlock], (by rintro (h | h); (have := hlvS _ h; omega); omega), (by rintro (h | h); exact hlvt _ h rfl; omega), by simp [Value.ownBlock], by simp [Value.ownBlock], (by rintro q (h | rfl); (have := hlvS _ h; have := l3.size; omega); exact c1.lt), Touch.of_below l3 _, c1⟩
    (fun y => { tmps := #[.pointer (some ⟨rb, 0, none⟩), .func (.func 17) #[.pointer (some ⟨tb, 0, none⟩)] #[], undef, .pointer (some ⟨w.heap.size, 0, none⟩), .pointer (some ⟨w.heap.size + 1, 0, none⟩), .int .i64 y, .pointer (some ⟨rb, 0, none⟩), .func (.func 31) #[] #[.pointer (some ⟨bx, 0, none⟩)], .int .i64 y, undef, undef, undef, undef, undef, undef, undef, undef, undef], defers := [] }) ?assign ?body ?done
  case assign =>
    intro lp y W K m hK
    gi_wp2
    exact hK
  case body =>
    rintro lp S1 pre y W m ⟨v, sv, hv, hrow, hTu, hd, h1, h2, h3, h4, h5, h6, h7⟩ hpre
    have hpl : pre.length < 1000000 := by have := hpre.length_le; simp at this; omega
    have c4 := hv.cell
    have c3 := h7.cell
    have hent := to10_enters
    obtain ⟨a0, c0, rfl⟩ := own_sl hrow
    have hTd : Tu W.drew w.heap.size tb k sv pre := ⟨hTu.own, hTu.row⟩
    have hcal := to10_any hTd (by show w.heap.size ≤ W.heap.size; exact h6.size) (by omega) y
    have HI : Hid (Tryz.prog.info? 3 = some i0 ∧ i0.zero = some (.int .i64 0) ∧ i0.size = 1 ∧ i0.bytes = 8) := ⟨hi, hz0, hz1, hz2⟩
    have Hbn : Hid (w.heap.size + 1 ∉ tb :: sv.ownBlock.toList) := by
      show w.heap.size + 1 ∉ tb :: sv.ownBlock.toList
      simp only [List.mem_cons, Option.mem_toList, not_or]
      refine ⟨by omega, fun e => ?_⟩
      obtain ⟨cs, hc, -⟩ := own_cells hTu.row _ e
      rw [show W.heap[w.heap.size + 1]? = _ from hv] at hc
      simp at hc
    have Hbv : Hid ((Value.slice a0 pre.length c0).ownBlock ≠ some (w.heap.size + 1)) := fun e => by
      obtain ⟨cs, hc, -⟩ := own_cells hrow _ e
      rw [show W.heap[w.heap.size + 1]? = _ from hv] at hc
      simp at hc
    have Hqn : Hid (∀ q, (Value.slice a0 pre.length c0).ownBlock = some q → q ∉ tb :: sv.ownBlock.toList) := fun q hq => by
      simp only [List.mem_cons, Option.mem_toList, not_or]
      refine ⟨fun e => ?_, hd q hq⟩
      obtain ⟨cs, hc, hb⟩ := own_cells hrow q hq
      omega
    gi_wp2
    refine wpIn_region_any Mk.mixed (Mk.any_round (Mk.noDefer_spec (by kernel_rfl)) (by rintro ⟨a9, w9, h9⟩; exact h9) _ _ _ _ ?_)
    change wpAny _ _ _ _ _ _ _ (World.drew _)
    -- REGION
    refine wpAny_take (i := 2) (v := .int .i64 y) rfl (by kernel_rfl) (by kernel_rfl) (by kernel_rfl) (fun _ _ _ h => h) (Or.inl ⟨by rfl, fun w => by go_simp⟩) ?_
    refine wpAny_ready (rs := [0, 1]) (by kernel_rfl) (by simp) (AllReady.cons rfl (fun K hK => ?_) (AllReady.cons rfl (fun K hK => ?_) (AllReady.nil)))
    · go_simp
      refine hK _ _ ?_
      clear hK K
      refine wpAny_ready (rs := [1]) (by kernel_rfl) (by simp) (AllReady.cons rfl (fun K hK => ?_) (AllReady.nil))
      go_simp
      refine hK _ _ ?_
      clear hK K
      refine wpAny_ready (rs := [3]) (by kernel_rfl) (by simp) (AllReady.cons rfl (fun K hK => ?_) (AllReady.nil))
      go_simp
      refine hcal.mono ?_
      rintro e W1 ⟨rfl, sv', hT1, t0, hs0⟩
      have t1 : Touch (tb :: sv.ownBlock.toList) W W1 := ⟨t0.os, t0.tape, t0.output, t0.size, t0.block⟩
      have hlB : w.heap.size + 1 < W1.heap.size := Nat.lt_of_lt_of_le hv.lt t1.size
      have hs1 : sv'.ownBlock = sv.ownBlock ∨ ∃ q, sv'.ownBlock = some q ∧ W.heap.size ≤ q := hs0
      clear t0 hs0
      have d4 : W1.cell? ⟨w.heap.size + 1, 0, none⟩ = some (.slice a0 pre.length c0) := (World.cell?_of_block (w := W) (t1.block _ hv.lt (Hbn.out))).trans c4
      have Hd5 : Hid (W1.ownsRow w.heap.size 3 1 (.slice a0 pre.length c0) pre.length (ints (pre.map (fun a => wrap64 (a + k)))) ∧ w.heap.size ≤ W1.heap.size) := ⟨row_keep hrow (fun q hq => t1.block q (row_lt hrow q hq) (Hqn.out q hq)), Nat.le_trans h6.size t1.size⟩
      refine hK _ _ ?_
      clear hK K
      refine wpAny_ready (rs := [4]) (by kernel_rfl) (by simp) (AllReady.cons rfl (fun K hK => ?_) (AllReady.nil))
      go_simp
      refine hK _ _ ?_
      clear hK K
      refine wpAny_ready (rs := [5]) (by kernel_rfl) (by simp) (AllReady.cons rfl (fun K hK => ?_) (AllReady.nil))
      refine step_append_own_at rfl (.tmp 9) (.tmp 13) 27 rfl w.heap.size 3 i0 (.int .i64 0) 1 8 Tryz.underlying27 HI.out.1 HI.out.2.1 HI.out.2.2.1 HI.out.2.2.2 rfl (by decide) (.slice a0 pre.length c0) pre.length (ints (pre.map (fun a => wrap64 (a + k)))) rfl (Hd5.out.1.alloc _) ⟨W1.heap.size, 0, none⟩ 1 1 [.int .i64 (wrap64 (y + k))] rfl rfl (cell_one_new _ _ _) (by simp [Value.oneCell']) (by simp [maxLen]; omega) (by omega) (by have := Hd5.out.2; simp; omega) ?_
      intro v' w4 hown' hgrow hat
      have hg : Hid (∃ a1 c1, v' = .slice a1 (pre.length + 1) c1) := own_sl hown'
      obtain ⟨a1, c1, rfl⟩ := hg.out
      have x4 : w4.cell? ⟨w.heap.size + 1, 0, none⟩ = some (.slice a0 pre.length c0) := by
        rw [World.cell?_of_block (w := W1) ((hgrow.block _ (by have := hv.lt; have := t1.size; simp; omega) (fun e => Hbv.out e.symm)).trans (Below.heap_alloc _ _ _ (by have := hv.lt; have := t1.size; omega)))]
        exact d4
      have xf : w4.frozen? ⟨w.heap.size + 1, 0, none⟩ = false := by
        have hb9 : w4.heap[w.heap.size + 1]? = some (.cells #[.slice a0 pre.length c0] 27 (0, 0)) := (hgrow.block _ (by have := hv.lt; have := t1.size; simp; omega) (fun e => Hbv.out e.symm)).trans ((Below.heap_alloc _ _ _ (by have := hv.lt; have := t1.size; omega)).trans ((t1.block _ hv.lt (Hbn.out)).trans hv))
        unfold World.frozen?
        simp only [hb9]
        simp
      have Hfin : Hid (goesOn tb (Upg w tb (w.heap.size + 1) k) S1 (pre ++ [y]) W .normal { tmps := #[], defers := [] } (w4.setCell ⟨w.heap.size + 1, 0, none⟩ (.slice a1 (pre.length + 1) c1))) := upg_step htl (by omega) h7 hv hrow hTu hd h1 h2 h3 h4 h5 h6 hT1 t1 hs1 hown' hgrow hat
      clear hown' hgrow hat
      refine hK _ _ ?_
      clear hK K
      refine wpAny_ready (rs := [6]) (by kernel_rfl) (by simp) (AllReady.cons rfl (fun K hK => ?_) (AllReady.nil))
      go_simp
      refine hK _ _ ?_
      clear hK K
      refine wpAny_done (by kernel_rfl) ?_ _
      exact Hfin.out
    · go_simp
      refine hK _ _ ?_
      clear hK K
      refine wpAny_ready (rs := [0, 3]) (by kernel_rfl) (by simp) (AllReady.cons rfl (fun K hK => ?_) (AllReady.cons rfl (fun K hK => ?_) (AllReady.nil)))
      · go_simp
        refine hK _ _ ?_
        clear hK K
        refine wpAny_ready (rs := [3]) (by kernel_rfl) (by simp) (AllReady.cons rfl (fun K hK => ?_) (AllReady.nil))
        go_simp
        refine hcal.mono ?_
        rintro e W1 ⟨rfl, sv', hT1, t0, hs0⟩
        have t1 : Touch (tb :: sv.ownBlock.toList) W W1 := ⟨t0.os, t0.tape, t0.output, t0.size, t0.block⟩
        have hlB : w.heap.size + 1 < W1.heap.size := Nat.lt_of_lt_of_le hv.lt t1.size
        have hs1 : sv'.ownBlock = sv.ownBlock ∨ ∃ q, sv'.ownBlock = some q ∧ W.heap.size ≤ q := hs0
        clear t0 hs0
        have d4 : W1.cell? ⟨w.heap.size + 1, 0, none⟩ = some (.slice a0 pre.length c0) := (World.cell?_of_block (w := W) (t1.block _ hv.lt (Hbn.out))).trans c4
        have Hd5 : Hid (W1.ownsRow w.heap.size 3 1 (.slice a0 pre.length c0) pre.length (ints (pre.map (fun a => wrap64 (a + k)))) ∧ w.heap.size ≤ W1.heap.size) := ⟨row_keep hrow (fun q hq => t1.block q (row_lt hrow q hq) (Hqn.out q hq)), Nat.le_trans h6.size t1.size⟩
        refine hK _ _ ?_
        clear hK K
        refine wpAny_ready (rs := [4]) (by kernel_rfl) (by simp) (AllReady.cons rfl (fun K hK => ?_) (AllReady.nil))
        go_simp
        refine hK _ _ ?_
        clear hK K
        refine wpAny_ready (rs := [5]) (by kernel_rfl) (by simp) (AllReady.cons rfl (fun K hK => ?_) (AllReady.nil))
        refine step_append_own_at rfl (.tmp 9) (.tmp 13) 27 rfl w.heap.size 3 i0 (.int .i64 0) 1 8 Tryz.underlying27 HI.out.1 HI.out.2.1 HI.out.2.2.1 HI.out.2.2.2 rfl (by decide) (.slice a0 pre.length c0) pre.length (ints (pre.map (fun a => wrap64 (a + k)))) rfl (Hd5.out.1.alloc _) ⟨W1.heap.size, 0, none⟩ 1 1 [.int .i64 (wrap64 (y + k))] rfl rfl (cell_one_new _ _ _) (by simp [Value.oneCell']) (by simp [maxLen]; omega) (by omega) (by have := Hd5.out.2; simp; omega) ?_
        intro v' w4 hown' hgrow hat
        have hg : Hid (∃ a1 c1, v' = .slice a1 (pre.length + 1) c1) := own_sl hown'
        obtain ⟨a1, c1, rfl⟩ := hg.out
        have x4 : w4.cell? ⟨w.heap.size + 1, 0, none⟩ = some (.slice a0 pre.length c0) := by
          rw [World.cell?_of_block (w := W1) ((hgrow.block _ (by have := hv.lt; have := t1.size; simp; omega) (fun e => Hbv.out e.symm)).trans (Below.heap_alloc _ _ _ (by have := hv.lt; have := t1.size; omega)))]
          exact d4
        have xf : w4.frozen? ⟨w.heap.size + 1, 0, none⟩ = false := by
          have hb9 : w4.heap[w.heap.size + 1]? = some (.cells #[.slice a0 pre.length c0] 27 (0, 0)) := (hgrow.block _ (by have := hv.lt; have := t1.size; simp; omega) (fun e => Hbv.out e.symm)).trans ((Below.heap_alloc _ _ _ (by have := hv.lt; have := t1.size; omega)).trans ((t1.block _ hv.lt (Hbn.out)).trans hv))
          unfold World.frozen?
          simp only [hb9]
          simp
        have Hfin : Hid (goesOn tb (Upg w tb (w.heap.size + 1) k) S1 (pre ++ [y]) W .normal { tmps := #[], defers := [] } (w4.setCell ⟨w.heap.size + 1, 0, none⟩ (.slice a1 (pre.length + 1) c1))) := upg_step htl (by omega) h7 hv hrow hTu hd h1 h2 h3 h4 h5 h6 hT1 t1 hs1 hown' hgrow hat
        clear hown' hgrow hat
        refine hK _ _ ?_
        clear hK K
        refine wpAny_ready (rs := [6]) (by kernel_rfl) (by simp) (AllReady.cons rfl (fun K hK => ?_) (AllReady.nil))
        go_simp
        refine hK _ _ ?_
        clear hK K
        refine wpAny_done (by kernel_rfl) ?_ _
        exact Hfin.out
      · go_simp
        refine hcal.mono ?_
        rintro e W1 ⟨rfl, sv', hT1, t0, hs0⟩
        have t1 : Touch (tb :: sv.ownBlock.toList) W W1 := ⟨t0.os, t0.tape, t0.output, t0.size, t0.block⟩
        have hlB : w.heap.size + 1 < W1.heap.size := Nat.lt_of_lt_of_le hv.lt t1.size
        have hs1 : sv'.ownBlock = sv.ownBlock ∨ ∃ q, sv'.ownBlock = some q ∧ W.heap.size ≤ q := hs0
        clear t0 hs0
        have d4 : W1.cell? ⟨w.heap.size + 1, 0, none⟩ = some (.slice a0 pre.length c0) := (World.cell?_of_block (w := W) (t1.block _ hv.lt (Hbn.out))).trans c4
        have Hd5 : Hid (W1.ownsRow w.heap.size 3 1 (.slice a0 pre.length c0) pre.length (ints (pre.map (fun a => wrap64 (a + k)))) ∧ w.heap.size ≤ W1.heap.size) := ⟨row_keep hrow (fun q hq => t1.block q (row_lt hrow q hq) (Hqn.out q hq)), Nat.le_trans h6.size t1.size⟩
        refine hK _ _ ?_
        clear hK K
        refine wpAny_ready (rs := [0, 4]) (by kernel_rfl) (by simp) (AllReady.cons rfl (fun K hK => ?_) (AllReady.cons rfl (fun K hK => ?_) (AllReady.nil)))
        · go_simp
          refine hK _ _ ?_
          clear hK K
          refine wpAny_ready (rs := [4]) (by kernel_rfl) (by simp) (AllReady.cons rfl (fun K hK => ?_) (AllReady.nil))
          go_simp
          refine hK _ _ ?_
          clear hK K
          refine wpAny_ready (rs := [5]) (by kernel_rfl) (by simp) (AllReady.cons rfl (fun K hK => ?_) (AllReady.nil))
          refine step_append_own_at rfl (.tmp 9) (.tmp 13) 27 rfl w.heap.size 3 i0 (.int .i64 0) 1 8 Tryz.underlying27 HI.out.1 HI.out.2.1 HI.out.2.2.1 HI.out.2.2.2 rfl (by decide) (.slice a0 pre.length c0) pre.length (ints (pre.map (fun a => wrap64 (a + k)))) rfl (Hd5.out.1.alloc _) ⟨W1.heap.size, 0, none⟩ 1 1 [.int .i64 (wrap64 (y + k))] rfl rfl (cell_one_new _ _ _) (by simp [Value.oneCell']) (by simp [maxLen]; omega) (by omega) (by have := Hd5.out.2; simp; omega) ?_
          intro v' w4 hown' hgrow hat
          have hg : Hid (∃ a1 c1, v' = .slice a1 (pre.length + 1) c1) := own_sl hown'
          obtain ⟨a1, c1, rfl⟩ := hg.out
          have x4 : w4.cell? ⟨w.heap.size + 1, 0, none⟩ = some (.slice a0 pre.length c0) := by
            rw [World.cell?_of_block (w := W1) ((hgrow.block _ (by have := hv.lt; have := t1.size; simp; omega) (fun e => Hbv.out e.symm)).trans (Below.heap_alloc _ _ _ (by have := hv.lt; have := t1.size; omega)))]
            exact d4
          have xf : w4.frozen? ⟨w.heap.size + 1, 0, none⟩ = false := by
            have hb9 : w4.heap[w.heap.size + 1]? = some (.cells #[.slice a0 pre.length c0] 27 (0, 0)) := (hgrow.block _ (by have := hv.lt; have := t1.size; simp; omega) (fun e => Hbv.out e.symm)).trans ((Below.heap_alloc _ _ _ (by have := hv.lt; have := t1.size; omega)).trans ((t1.block _ hv.lt (Hbn.out)).trans hv))
            unfold World.frozen?
            simp only [hb9]
            simp
          have Hfin : Hid (goesOn tb (Upg w tb (w.heap.size + 1) k) S1 (pre ++ [y]) W .normal { tmps := #[], defers := [] } (w4.setCell ⟨w.heap.size + 1, 0, none⟩ (.slice a1 (pre.length + 1) c1))) := upg_step htl (by omega) h7 hv hrow hTu hd h1 h2 h3 h4 h5 h6 hT1 t1 hs1 hown' hgrow hat
          clear hown' hgrow hat
          refine hK _ _ ?_
          clear hK K
          refine wpAny_ready (rs := [6]) (by kernel_rfl) (by simp) (AllReady.cons rfl (fun K hK => ?_) (AllReady.nil))
          go_simp
          refine hK _ _ ?_
          clear hK K
          refine wpAny_done (by kernel_rfl) ?_ _
          exact Hfin.out
        · go_simp
          refine hK _ _ ?_
          clear hK K
          refine wpAny_ready (rs := [0]) (by kernel_rfl) (by simp) (AllReady.cons rfl (fun K hK => ?_) (AllReady.nil))
          go_simp
          refine hK _ _ ?_
          clear hK K
          refine wpAny_ready (rs := [5]) (by kernel_rfl) (by simp) (AllReady.cons rfl (fun K hK => ?_) (AllReady.nil))
          refine step_append_own_at rfl (.tmp 9) (.tmp 13) 27 rfl w.heap.size 3 i0 (.int .i64 0) 1 8 Tryz.underlying27 HI.out.1 HI.out.2.1 HI.out.2.2.1 HI.out.2.2.2 rfl (by decide) (.slice a0 pre.length c0) pre.length (ints (pre.map (fun a => wrap64 (a + k)))) rfl (Hd5.out.1.alloc _) ⟨W1.heap.size, 0, none⟩ 1 1 [.int .i64 (wrap64 (y + k))] rfl rfl (cell_one_new _ _ _) (by simp [Value.oneCell']) (by simp [maxLen]; omega) (by omega) (by have := Hd5.out.2; simp; omega) ?_
          intro v' w4 hown' hgrow hat
          have hg : Hid (∃ a1 c1, v' = .slice a1 (pre.length + 1) c1) := own_sl hown'
          obtain ⟨a1, c1, rfl⟩ := hg.out
          have x4 : w4.cell? ⟨w.heap.size + 1, 0, none⟩ = some (.slice a0 pre.length c0) := by
            rw [World.cell?_of_block (w := W1) ((hgrow.block _ (by have := hv.lt; have := t1.size; simp; omega) (fun e => Hbv.out e.symm)).trans (Below.heap_alloc _ _ _ (by have := hv.lt; have := t1.size; omega)))]
            exact d4
          have xf : w4.frozen? ⟨w.heap.size + 1, 0, none⟩ = false := by
            have hb9 : w4.heap[w.heap.size + 1]? = some (.cells #[.slice a0 pre.length c0] 27 (0, 0)) := (hgrow.block _ (by have := hv.lt; have := t1.size; simp; omega) (fun e => Hbv.out e.symm)).trans ((Below.heap_alloc _ _ _ (by have := hv.lt; have := t1.size; omega)).trans ((t1.block _ hv.lt (Hbn.out)).trans hv))
            unfold World.frozen?
            simp only [hb9]
            simp
          have Hfin : Hid (goesOn tb (Upg w tb (w.heap.size + 1) k) S1 (pre ++ [y]) W .normal { tmps := #[], defers := [] } (w4.setCell ⟨w.heap.size + 1, 0, none⟩ (.slice a1 (pre.length + 1) c1))) := upg_step htl (by omega) h7 hv hrow hTu hd h1 h2 h3 h4 h5 h6 hT1 t1 hs1 hown' hgrow hat
          clear hown' hgrow hat
          refine hK _ _ ?_
          clear hK K
          refine wpAny_ready (rs := [6]) (by kernel_rfl) (by simp) (AllReady.cons rfl (fun K hK => ?_) (AllReady.nil))
          go_simp
          refine hK _ _ ?_
          clear hK K
          refine wpAny_done (by kernel_rfl) ?_ _
          exact Hfin.out
    -- END REGION
  case done =>
    rintro D S1 W hD ⟨v, sv, hv, hrow, hTu, hd, h1, h2, h3, h4, h5, h6, h7⟩ hK
    obtain ⟨a0, c0, rfl⟩ := own_sl hrow
    have kv : W.cell? ⟨w.heap.size + 1, 0, none⟩ = some (.slice a0 l.length c0) := hv.cell
    have hnt : ∀ q, q ≠ tb → q ∉ [tb] := fun q h => by simpa using h
    have hrt : rb ≠ tb := fun e => by
      have := H.own
      rw [e, hT] at this
      simp at this
    have hmt : mb ≠ tb := fun e => by
      obtain ⟨c9, h9, -, -⟩ := H.mp.own
      rw [e, hT] at h9
      simp at h9
    have hgt : mg ≠ tb := fun e => by
      obtain ⟨c9, h9, -, -⟩ := H.mp.row
      rw [e, hT] at h9
      simp at h9
    have RW := H.touch h6 (hnt _ hrt) (hnt _ hmt) (hnt _ hgt) (fun q hq => hnt _ (hlvt q hq))
    have hn1 : n1 ≤ w.heap.size := Nat.le_of_lt (Nat.lt_of_le_of_lt H.lr H.lt)
    have hlay := wlay_any RW (.slice a0 l.length c0) (l.map (fun a => wrap64 (a + k))) (by rw [List.length_map]; exact Kg.row_base hrow hn1) (by rw [List.length_map]; exact hl) (fun z hz => by
      obtain ⟨y, -, rfl⟩ := List.mem_map.1 hz
      exact wrap_in _)
    have HK : Hid (W.heap[D]? = some (.deferred (some []))) := hK
    have HT : Hid (Tu W w.heap.size tb k sv l ∧ Touch [tb] w W ∧ w.heap.size ≤ D) := ⟨hTu, h6, by have := l3.size; omega⟩
    have Hqv : Hid ((∀ q, (Value.slice a0 l.length c0).ownBlock = some q → w.heap.size ≤ q) ∧ ∀ q, sv.ownBlock = some q → (Value.slice a0 l.length c0).ownBlock ≠ some q) := ⟨fun q hq => (own_cells hrow q hq).elim (fun _ h => h.2), fun q hq e => hd q e hq⟩
    clear hK hTu h1 h2 h3 h4 h5 h6 h7 hd hrow hseq RW
    gi_wp2
    refine ⟨trivial, (callsIn_wide.2 hlay).mono ?_⟩
    rintro r W2 ⟨rfl, M', R2, t2⟩
    have hDl : D < W.heap.size := (Array.getElem?_eq_some_iff.1 HK.out).1
    have hDrg : D ∉ [rb, mg] := fun hm => by
      have h9 := HR.out.lt
      have h8 := HR.out.mp.row.lt
      have := HT.out.2.2
      simp at hm
      omega
    have hK2 : W2.heap[D]? = some (.deferred (some [])) := (t2.block D hDl hDrg).trans HK.out
    have HR2 : Hid (Rg W2 n1 rb ab (.slice a0 l.length c0) (l.map (fun a => wrap64 (a + k))) mb mg n M') := R2
    have hr9 : rb ≠ tb ∧ mg ≠ tb := ⟨hrt, hgt⟩
    have HT2 : Hid (Tu W2 w.heap.size tb k sv l) := HT.out.1.keep (t2.block tb HT.out.1.lt (by simp; omega)) (fun q hq => t2.block q (row_lt HT.out.1.row q hq) (by
      obtain ⟨cs, hc, hb⟩ := own_cells HT.out.1.row q hq
      have h9 := HR.out.lt
      have h8 := HR.out.mp.row.lt
      simp
      omega))
    have HTt : Hid (Touch [tb, rb, mg] w W2) := ((Touch.refl [tb, rb, mg] w).then HT.out.2.1 (fun q hq => by simp at hq; simp [hq])).then t2 (fun q hq => .inl (List.mem_cons_of_mem _ hq))
    clear hlay t2 R2
    gi_wp2
    refine ⟨by simp, .inl ⟨_, _, rfl, run_takeDeferred hK2, ?_⟩⟩
    have tp : Touch [D] W2 (W2.putObj D (.deferred none)) := ⟨rfl, rfl, rfl, by simp, fun q hq hn => World.putObj_heap_other (by simpa using hn)⟩
    have hDq : ∀ (q : Nat) (cs : Array Value) (t : TypeId), W2.heap[q]? = some (Obj.cells cs t (0, 0)) → q ∉ [D] := fun q cs t hq hm => by
      simp at hm
      subst hm
      rw [hK2] at hq
      simp at hq
    refine ⟨_, results_none rfl _ _ _, rfl, sv, .slice a0 l.length c0, M', HT2.out.keep (tp.block tb HT2.out.lt (hDq _ _ _ HT2.out.own)) (fun q hq => ?_), HR2.out.touch tp (hDq _ _ _ HR2.out.own) ?_ ?_ (fun q hq => ?_), HTt.out.then tp (fun q hq => ?_), Hqv.out.1, Hqv.out.2⟩
    · obtain ⟨cs, hc, -⟩ := own_cells HT2.out.row q hq
      exact tp.block q (row_lt HT2.out.row q hq) (hDq _ _ _ hc)
    · obtain ⟨c9, h9, -, -⟩ := HR2.out.mp.own
      exact hDq _ _ _ h9
    · obtain ⟨c9, h9, -, -⟩ := HR2.out.mp.row
      exact hDq _ _ _ h9
    · obtain ⟨cs, hc, -⟩ := own_cells HR2.out.row q hq
      exact hDq _ _ _ hc
    · have := HT.out.2.2
      simp at hq
      exact .inr (by omega)

end Go.Proofs.YtbgnagjhkfkekaaGreatDoor
