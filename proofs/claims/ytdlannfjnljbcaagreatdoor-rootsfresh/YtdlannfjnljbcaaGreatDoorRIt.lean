/-
  The library's iterators over numbers, and copied.
-/
import Derived.Test.YtdlannfjnljbcaaGreatDoorRng
import Derived.Test.YtdlannfjnljbcaaGreatDoorRMem
set_option linter.unusedVariables false
namespace Go.Proofs.YtdlannfjnljbcaaGreatDoor
open Go.RowKit Go.Shelf

attribute [local go_sem] Oper.semAt_some

/-- The slice value holds the numbers, in a block below n0. -/
def SliceIs (n0 : Nat) (W : World) (sv : Value) (zs : List Int) : Prop :=
  (sv = .slice none 0 0 ∧ zs = []) ∨ ∃ b off cap, sv = .slice (some ⟨b, off, none⟩) zs.length cap ∧ b < n0 ∧ ∀ (j : Nat) x, zs[j]? = some x → W.cell? ⟨b, off + j, none⟩ = some (.int .i64 x)

theorem SliceIs.below {n0 n1 : Nat} {A B : World} {sv : Value} {zs : List Int} (h : Below n1 A B) (hn : n0 ≤ n1) : SliceIs n0 A sv zs → SliceIs n0 B sv zs
  | .inl e => .inl e
  | .inr ⟨b, off, cap, e, hb, hc⟩ => .inr ⟨b, off, cap, e, hb, fun j x hj => (h.cell (p := ⟨b, off + j, none⟩) (by show b < n1; omega)).trans (hc j x hj)⟩

theorem take_snoc {α : Type} {zs : List α} {k : Nat} {x : α} (h : zs[k]? = some x) : zs.take k ++ [x] = zs.take (k + 1) := by
  rw [List.take_add_one, h]; rfl

set_option maxRecDepth 100000 in
set_option maxHeartbeats 2000000 in
theorem valuesI_full (Bs n0 : Nat) (sv : Value) (zs : List Int) (w : World) (hBs : Bs < w.heap.size) (hn0 : n0 ≤ w.heap.size) (hlen : zs.length < 8796093022208) (hc : w.cell? ⟨Bs, 0, none⟩ = some sv) (hI : SliceIs n0 w sv zs) :
    SeqFull Tryz.prog 110 #[.pointer (some ⟨Bs, 0, none⟩)] (fun x : Int => #[Value.int .i64 x]) zs n0 (fun _ => False) w := fun n l J W S0 hW _ hJ hY h0 => by
  have hc' := (hW.cell (p := ⟨Bs, 0, none⟩) hBs).trans hc
  refine callsIn_of_wp Tryz.func110 rfl trivial ?_ rfl
  simp only [Tryz.ntmps110, List.size_toArray, List.length_cons, List.length_nil, Nat.reduceAdd, Nat.reduceSub, Array.replicate_succ, Array.replicate_zero, List.push_toArray, List.append_toArray, List.nil_append, List.cons_append]
  rcases hI.below hW hn0 with ⟨rfl, rfl⟩ | ⟨b, off, cap, rfl, hb, hcs⟩
  · gi_wp2
    gi_loopw [7] (fun i wr => i = .int .i64 0 ∧ J S0 [] wr) (fun _ _ => 0)
    case atStart => exact ⟨rfl, h0⟩
    case round =>
      obtain ⟨rfl, hJs⟩ := hrel
      gi_wp2
      go_end0
      exact ⟨⟨_, rfl⟩, _, hJs⟩
  · gi_wp2
    gi_loopw [7] (fun i wr => ∃ (k : Nat) (S : Nat → Prop), k ≤ zs.length ∧ i = .int .i64 k ∧ J S (zs.take k) wr ∧ Below n0 W wr)
      (fun i _ => zs.length - (intOf i).toNat)
    case atStart => exact ⟨0, S0, Nat.zero_le _, rfl, h0, Below.refl _ _⟩
    case round =>
      obtain ⟨k, S, hk, rfl, hJs, hnx⟩ := hrel
      by_cases hlt : k < zs.length
      · obtain ⟨x, hx⟩ : ∃ x, zs[k]? = some x := ⟨_, List.getElem?_eq_getElem hlt⟩
        have hcx : wr.cell? ⟨b, off + k, none⟩ = some (.int .i64 x) := (hnx.cell (p := ⟨b, off + k, none⟩) hb).trans (hcs k x hx)
        have hsn := take_snoc hx
        obtain ⟨fn, tmps, assign, body, hy, hR⟩ := hY S (zs.take k) x wr hJs (by rw [hsn]; exact List.take_prefix _ _) (n - 1)
        have Hsn : Hid (zs.take k ++ [x] = zs.take (k + 1)) := hsn
        clear hsn hx
        gi_wp2
        refine ⟨fun h => (by cases h), hR.mono ?_⟩
        rintro e W3 ⟨rfl, hJ3, hS3, hk3⟩
        rw [Hsn.out] at hJ3
        gi_wp2
        go_roundw
        case rel => exact ⟨k + 1, S, hlt, by go_num, hJ3, hnx.trans hk3⟩
        case measure => simp [intOf]; omega
      · obtain rfl : k = zs.length := by omega
        rw [List.take_length] at hJs
        gi_wp2
        go_end0
        exact ⟨⟨_, rfl⟩, S, hJs⟩

set_option maxHeartbeats 1000000 in
theorem valuesI_any (a : Option Addr) (len cap : Nat) (w : World) :
    Calls Tryz.prog 82 #[.slice a len cap] w fun e w' => e = .returned (.func (.func 110) #[] #[.pointer (some ⟨w.heap.size, 0, none⟩)]) ∧ w' = w.alloc (.cells #[.slice a len cap] 33) := by
  go_enter Tryz.func82, Tryz.ntmps82
  go_wp2
  go_ret
  exact ⟨rfl, rfl⟩

/-- What copied holds between two rounds. -/
def Copying {α : Type} (w : World) (tb te : Nat) (enc : α → Value) (S : Nat → Prop) (pre : List α) (W : World) : Prop :=
  ∃ v, Boxed W w.heap.size tb v ∧ W.ownsRow w.heap.size te 1 v pre.length (pre.map enc) ∧ ¬ S w.heap.size ∧ (∀ g, v.ownBlock = some g → ¬ S g) ∧ (∀ k, S k → k < W.heap.size) ∧ Below w.heap.size w W

theorem copying_own {α : Type} (w : World) (tb te : Nat) (enc : α → Value) (B : Nat) (hB : w.heap.size ≤ B) : OwnS B (Copying w tb te enc) := by
  rintro S s X Y row ⟨v, hb, hr, h1, h2, h3, h4⟩ hg hrow
  have hbr : some w.heap.size ≠ row := fun e => by
    obtain ⟨_, o, ho, hc⟩ := hrow _ e.symm
    rw [show X.heap[w.heap.size]? = _ from hb] at ho; cases ho; cases hc
  have hvr : v.ownBlock = none ∨ v.ownBlock ≠ row := by
    rcases hr.2 with ⟨rfl, _⟩ | ⟨g, cap, cur, rfl, _, hgb, _⟩
    · exact .inl rfl
    · refine .inr fun e' => ?_
      obtain ⟨_, o, ho, hc⟩ := hrow g (by simpa [Value.ownBlock] using e'.symm)
      rw [hgb] at ho; cases ho; cases hc
  refine ⟨v, hb.kept hg hbr, hr.kept hg hvr, ?_, ?_, ?_, ?_⟩
  · rintro (h | h)
    · exact h1 h
    · have := hb.lt; omega
  · rintro g e (h | h)
    · exact h2 g e h
    · have := (hr.lt g e).2; omega
  · rintro k (h | h)
    · have := h3 k h; have := hg.size; omega
    · exact h.2
  · exact h4.grown hg h4.size (fun k e => by have := (hrow k e).1; omega)

theorem copying_step {α : Type} {w W w1 : World} {tb te : Nat} {enc : α → Value} {S : Nat → Prop} {pre : List α} {x : α} {v v' : Value} {tmp : Obj} {a : Act} (hte : tb ≠ te) (hv : Boxed W w.heap.size tb v) (hrow : W.ownsRow w.heap.size te 1 v pre.length (pre.map enc))
    (h1 : ¬ S w.heap.size) (h2 : ∀ g, v.ownBlock = some g → ¬ S g) (h3 : ∀ k, S k → k < W.heap.size) (hB : Below w.heap.size w W)
    (hown : w1.ownsRow w.heap.size te 1 v' (pre.length + 1) (pre.map enc ++ [enc x])) (hgrow : (W.alloc tmp).grownBy w1 v.ownBlock) (hat : v'.ownBlock = v.ownBlock ∨ v'.ownBlock = some (W.alloc tmp).heap.size) :
    goesOn w.heap.size (Copying w tb te enc) S (pre ++ [x]) W .normal a (w1.setCell ⟨w.heap.size, 0, none⟩ v') := by
  obtain ⟨hv1, hv2, hr2, hk2, hb2⟩ := hv.appended hte hrow hB.size (Nat.le_refl _) hown hgrow
  refine ⟨fun k hk => ?_, hb2, v', hv2, by simpa using hr2, h1, fun g hg => ?_, fun k hk => ?_, hB.trans hb2⟩
  · have hkl := h3 k hk
    rw [Below.heap_setCell _ _ _ _ (fun e => h1 (by simp at e; rw [← e]; exact hk)), hgrow.block k (by simp; omega) (fun e => h2 k e.symm hk), Below.heap_alloc _ _ _ hkl]
  · rcases hat with e | e
    · exact h2 g (e ▸ hg)
    · rw [e] at hg; cases hg
      intro hS; have := h3 _ hS; simp at this; omega
  · exact Nat.lt_of_lt_of_le (h3 k hk) hb2.size

end Go.Proofs.YtdlannfjnljbcaaGreatDoor
