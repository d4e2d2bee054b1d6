import Derived.Test.YtbgnagjhkfkekaaGreatDoorPWb
import Derived.Test.YtbgnagjhkfkekaaGreatDoorKG14
import Derived.Test.YtbgnagjhkfkekaaGreatDoorPWc
/-
  WeakRegisters: the registry's lay; the turner.
-/
set_option linter.unusedVariables false
set_option maxRecDepth 20000
namespace Go.Proofs.YtbgnagjhkfkekaaGreatDoor
open Go.RowKit Go.Shelf

section
variable {w w' : World} {n1 rb ab mb mg n : Nat} {lv : Value} {l : List Int} {M : Nat → Bool}

/-- Set of one word, whatever it is. -/
theorem set_one (mb mg n : Nat) (M : Nat → Bool) (a : Int) (ha : InI a) (w : World) (hM : Mk.Mp w mb mg n M) :
    Calls Tryz.prog 34 #[.pointer (some ⟨mb, 0, none⟩), .int .i64 a, .int .i64 1] w fun e w' => ∃ v M', e = .returned v ∧ (∃ x y, v = .tuple #[x, y]) ∧ Mk.Mp w' mb mg n M' ∧ (∀ y : Nat, y < n → (M' y = true ↔ (M y = true ∨ (y : Int) = a))) ∧ Mk.Touch [mg] w w' := by
  by_cases h : a < 0 ∨ (n : Int) ≤ a
  · refine (Mk.set_out mb mg n M a 1 (by have := ha.2; omega) (by omega) w hM).mono ?_
    rintro e w' ⟨rfl, l⟩
    exact ⟨_, M, rfl, ⟨_, _, rfl⟩, hM.below l, fun y hy => by constructor; (exact .inl); (rintro (h9 | h9); exact h9; omega), Mk.Touch.of_below l _⟩
  · obtain ⟨k, rfl⟩ := Int.eq_ofNat_of_zero_le (show 0 ≤ a by omega)
    refine (Mk.set_in mb mg n M k 1 (by omega) w hM).mono ?_
    rintro e w' ⟨fs, -, rfl, h1, h2⟩
    refine ⟨_, _, rfl, ⟨_, _, rfl⟩, h1, fun y hy => ?_, h2⟩
    simp only [Mk.add, Bool.or_eq_true, Bool.and_eq_true, decide_eq_true_eq]
    constructor
    · rintro (h9 | h9)
      · exact .inl h9
      · exact .inr (by omega)
    · rintro (h9 | h9)
      · exact .inl h9
      · exact .inr (by omega)

set_option maxHeartbeats 2000000 in
/-- lay. -/
theorem wlay_any (H : Rg w n1 rb ab lv l mb mg n M) (nv : Value) (ln : List Int) (hr : w.ownsRow n1 3 1 nv ln.length (ints ln)) (hl : ln.length ≤ 1000000) (hi : ∀ z, z ∈ ln → InI z) :
    Calls Tryz.prog 52 #[.pointer (some ⟨rb, 0, none⟩), nv] w fun e w' => e = .returned (.tuple #[]) ∧ ∃ M', Rg w' n1 rb ab nv ln mb mg n M' ∧ Touch [rb, mg] w w' := by
  have hne : ∀ q, nv.ownBlock = some q → q ≠ rb ∧ q ≠ mb ∧ q ≠ mg := fun q hq => by
    obtain ⟨cs, hc⟩ : ∃ cs, w.heap[q]? = some (.cells cs 3 (0, 0)) := by
      rcases hr.2 with ⟨e, _⟩ | ⟨g, cap, cur, e, _, hg, _⟩
      · rw [e] at hq; simp [Value.ownBlock] at hq
      · rw [e] at hq
        simp [Value.ownBlock] at hq
        subst hq
        exact ⟨_, hg⟩
    obtain ⟨c1, h1, -, -⟩ := H.mp.own
    obtain ⟨c2, h2, -, -⟩ := H.mp.row
    refine ⟨fun e => ?_, fun e => ?_, fun e => ?_⟩
    · subst e
      have h3 := H.own
      rw [hc] at h3
      simp at h3
    · subst e
      rw [hc] at h1
      simp at h1
    · subst e
      rw [hc] at h2
      simp at h2
  have Hne : Hid (∀ q, nv.ownBlock = some q → q ≠ rb ∧ q ≠ mb ∧ q ≠ mg) := hne
  have k1 : w.cell? ⟨rb, 1, none⟩ = some lv := H.cell 1
  have k2 : w.cell? ⟨rb, 2, none⟩ = some (.pointer (some ⟨mb, 0, none⟩)) := H.cell 2
  have f1 : w.frozen? ⟨rb, 1, none⟩ = false := by
    unfold World.frozen?
    simp only [H.own]
    simp
  have HR : Hid (Rg w n1 rb ab lv l mb mg n M) := H
  have Hrow : Hid (w.ownsRow n1 3 1 nv ln.length (ints ln)) := hr
  have Hi : Hid (∀ z, z ∈ ln → InI z) := hi
  obtain ⟨a0, cap, rfl⟩ := own_sl hr
  clear H hne hr hi
  go_enter Tryz.func52, Tryz.ntmps52
  go_upto_region 1 with fail
  obtain ⟨w2, hw2⟩ : ∃ w2, w2 = w.setCell ⟨rb, 1, none⟩ (.slice a0 ln.length cap) := ⟨_, rfl⟩
  have t2 : Touch [rb] w w2 := by rw [hw2]; exact Touch.setCell w ⟨rb, 1, none⟩ _ (by simp)
  have o2 : w2.heap[rb]? = some (.cells #[.pointer (some ⟨ab, 0, none⟩), .slice a0 ln.length cap, .pointer (some ⟨mb, 0, none⟩)] 95 (0, 0)) := by
    rw [hw2]
    simp [World.setCell, Array.getElem?_modify, HR.out.own]
  have m2 : Mk.Mp w2 mb mg n M := HR.out.mp.touch t2.mk_ (by simpa using fun e => HR.out.rm e.symm) (by simpa using fun e => HR.out.rg e.symm)
  have r2 : w2.ownsRow n1 3 1 (.slice a0 ln.length cap) ln.length (ints ln) := row_keep Hrow.out (fun q hq => t2.block q (row_lt Hrow.out q hq) (by simpa using (Hne.out q hq).1))
  rw [← hw2]
  have k3 : w2.cell? ⟨rb, 2, none⟩ = some (.pointer (some ⟨mb, 0, none⟩)) := cell_of_row _ _ 2 _ _ _ o2
  have hcl := Mk.clear_any mb mg n M w2 m2
  have HW2 : Hid (w2.heap[rb]? = some (.cells #[.pointer (some ⟨ab, 0, none⟩), .slice a0 ln.length cap, .pointer (some ⟨mb, 0, none⟩)] 95 (0, 0)) ∧ w2.ownsRow n1 3 1 (.slice a0 ln.length cap) ln.length (ints ln) ∧ Touch [rb] w w2) := ⟨o2, r2, t2⟩
  clear hw2 k1 k2 f1 o2 m2 r2 t2
  go_wp2_with fail
  refine hcl.mono ?_
  rintro e w3 ⟨rfl, m3, t3⟩
  have HM3 : Hid (Mk.Mp w3 mb mg n (fun _ => false)) := m3
  have HT3 : Hid (Touch [mg] w2 w3) := touch_mk t3
  clear hcl m3 t3 k3
  go_wp2
  go_loopw [17] (fun v17 wr => ∃ k : Nat, k ≤ ln.length ∧ v17 = .int .i64 k ∧ ∃ M', Hid (Mk.Mp wr mb mg n M') ∧ Hid (∀ y : Nat, y < n → (M' y = true ↔ (y : Int) ∈ ln.take k)) ∧ Hid (Touch [mg] w2 wr)) (fun v17 _ => ln.length - (intOf v17).toNat)
  case atStart => exact ⟨0, by omega, rfl, _, HM3, (fun y _ => by simp : ∀ y : Nat, y < n → ((fun _ => false : Nat → Bool) y = true ↔ (y : Int) ∈ ln.take 0)), HT3⟩
  case round =>
    obtain ⟨k, hk, rfl, M', HM, HE, HT⟩ := hrel
    clear HM3 HT3
    have o4 : wr.heap[rb]? = some (.cells #[.pointer (some ⟨ab, 0, none⟩), .slice a0 ln.length cap, .pointer (some ⟨mb, 0, none⟩)] 95 (0, 0)) := (HT.out.block rb (Array.getElem?_eq_some_iff.1 HW2.out.1).1 (by simpa using HR.out.rg)).trans HW2.out.1
    have r4 : wr.ownsRow n1 3 1 (.slice a0 ln.length cap) ln.length (ints ln) := row_keep HW2.out.2.1 (fun q hq => HT.out.block q (row_lt HW2.out.2.1 q hq) (by simpa using (Hne.out q hq).2.2))
    by_cases hkl : k < ln.length
    · have hz : ln[k]? = some (ln[k]'hkl) := List.getElem?_eq_getElem hkl
      generalize ln[k]'hkl = z at hz
      obtain ⟨aa, cp, h1, -, h3⟩ := row_at (size := 1) (Kg.row_base r4 (Nat.zero_le _)) (by decide)
      obtain ⟨q, e1, -, e3⟩ := h3 k (.int .i64 z) (by simp [hz])
      simp at h1
      obtain rfl : a0 = some ⟨q, 0, none⟩ := h1.1.trans e1
      have k3 : wr.cell? ⟨rb, 2, none⟩ = some (.pointer (some ⟨mb, 0, none⟩)) := cell_of_row _ _ 2 _ _ _ o4
      have hse := set_one mb mg n M' z (Hi.out z (List.mem_of_getElem? hz)) wr HM.out
      have Hz : Hid (ln.take (k + 1) = ln.take k ++ [z]) := by
        show ln.take (k + 1) = ln.take k ++ [z]
        rw [List.take_add_one, hz]; rfl
      have hki : (k : Int) < (ln.length : Int) := by omega
      clear h1 h3 e1 o4 r4 hz
      go_wp2_with fail
      refine hse.mono ?_
      rintro e w5 ⟨v, M5, rfl, ⟨x, y, rfl⟩, h5, h6, h7⟩
      have HM5 : Hid (Mk.Mp w5 mb mg n M5) := h5
      have HE5 : Hid (∀ y : Nat, y < n → (M5 y = true ↔ (y : Int) ∈ ln.take (k + 1))) := fun y hy => by
        rw [h6 y hy, Hz.out, HE.out y hy]
        simp
      have HT5 : Hid (Touch [mg] w2 w5) := HT.out.trans (touch_mk h7)
      clear hse h5 h6 h7
      go_wp2
      go_roundw
      case rel => exact ⟨k + 1, by omega, by go_num, M5, HM5, HE5, HT5⟩
      case measure => simp [intOf]; omega
    · have hke : k = ln.length := by omega
      have hki : ¬ (k : Int) < (ln.length : Int) := by omega
      have HE9 : Hid (Rg wr n1 rb ab (.slice a0 ln.length cap) ln mb mg n M') := ⟨o4, r4, HM.out, fun y hy => by rw [HE.out y hy, hke, List.take_length], HR.out.lr, HR.out.lm, HR.out.lg, HR.out.rm, HR.out.rg⟩
      have HT9 : Hid (Touch [rb, mg] w wr) := ((Touch.refl [rb, mg] w).then HW2.out.2.2 (fun k hk => by simp at hk; simp [hk])).then HT.out (fun k hk => by simp at hk; simp [hk])
      clear o4 r4 hke
      go_wp2
      go_end0
      exact ⟨rfl, ⟨M', HE9.out⟩, HT9.out⟩
end

end Go.Proofs.YtbgnagjhkfkekaaGreatDoor

/-
  WeakRegisters: the turner's to; All's function in a range.
-/
set_option linter.unusedVariables false
set_option maxRecDepth 20000
namespace Go.Proofs.YtbgnagjhkfkekaaGreatDoor
open Go.RowKit Go.Shelf

/-- A turner: how many more, and what it was handed. -/
structure Tu (w : World) (base tb : Nat) (k : Int) (sv : Value) (xs : List Int) : Prop where
  own : w.heap[tb]? = some (.cells #[.int .i64 k, sv] 74 (0, 0))
  row : w.ownsRow base 3 1 sv xs.length (ints xs)

theorem Tu.lt {w : World} {base tb : Nat} {k : Int} {sv : Value} {xs : List Int} (h : Tu w base tb k sv xs) : tb < w.heap.size := (Array.getElem?_eq_some_iff.1 h.own).1
theorem Tu.cell {w : World} {base tb : Nat} {k : Int} {sv : Value} {xs : List Int} (h : Tu w base tb k sv xs) (j : Nat) : w.cell? ⟨tb, j, none⟩ = (#[.int .i64 k, sv] : Array Value)[j]? := cell_of_row _ _ j _ _ _ h.own
theorem Tu.keep {w w' : World} {base tb : Nat} {k : Int} {sv : Value} {xs : List Int} (h : Tu w base tb k sv xs) (h1 : w'.heap[tb]? = w.heap[tb]?) (h2 : ∀ q, sv.ownBlock = some q → w'.heap[q]? = w.heap[q]?) : Tu w' base tb k sv xs := ⟨h1.trans h.own, row_keep h.row h2⟩

set_option maxHeartbeats 1000000 in
theorem to10_any {w : World} {base tb : Nat} {k : Int} {sv : Value} {xs : List Int} (h : Tu w base tb k sv xs) (hb : base ≤ w.heap.size) (hl : xs.length ≤ 1000000) (a : Int) :
    Calls Tryz.prog 17 #[.pointer (some ⟨tb, 0, none⟩), .int .i64 a] w fun e w' => e = .returned (.int .i64 (wrap64 (a + k))) ∧ ∃ sv', Tu w' base tb k sv' (xs ++ [a]) ∧ Touch (tb :: sv.ownBlock.toList) w w' ∧ (sv'.ownBlock = sv.ownBlock ∨ ∃ q, sv'.ownBlock = some q ∧ w.heap.size ≤ q) := by
  have k1 : w.cell? ⟨tb, 1, none⟩ = some sv := h.cell 1
  have k0 : w.cell? ⟨tb, 0, none⟩ = some (.int .i64 k) := h.cell 0
  obtain ⟨i0, hi0, hz0, hz1, hz2⟩ := info_parts Tryz.infoInt
  have HI : Hid (Tryz.prog.info? 3 = some i0 ∧ i0.zero = some (.int .i64 0) ∧ i0.size = 1 ∧ i0.bytes = 8) := ⟨hi0, hz0, hz1, hz2⟩
  have HT : Hid (Tu w base tb k sv xs) := h
  obtain ⟨ad, cap, rfl⟩ := own_sl h.row
  clear h hi0 hz0 hz1 hz2
  go_enter Tryz.func17, Tryz.ntmps17
  go_wp2_with (at_builtin; refine wpList_append_own_at _ rfl _ _ 27 rfl base 3 i0 (.int .i64 0) 1 8 Tryz.underlying27 HI.out.1 HI.out.2.1 HI.out.2.2.1 HI.out.2.2.2 rfl (by decide) _ _ _ rfl (HT.out.row.alloc _) ⟨w.heap.size, 0, none⟩ 1 1 [.int .i64 a] rfl rfl (cell_one_new _ _ _) (by simp [Value.oneCell']) (by simp [maxLen]; omega) (by omega) (by simp; omega) ?_)
  intro v' w5 hown' hgrow _ hat
  have t2 : Touch (Value.slice ad xs.length cap).ownBlock.toList w w5 := ⟨hgrow.os, hgrow.tape, hgrow.output, by have := hgrow.size; simp at this; omega, fun k hk hn => (hgrow.block k (by simp; omega) (fun e => hn (by rw [Option.mem_toList]; exact e.symm))).trans (Below.heap_alloc _ _ _ hk)⟩
  have hs2 : w5.heap[tb]? = w.heap[tb]? := t2.block tb HT.out.lt (by
    intro hm
    rw [Option.mem_toList] at hm
    exact row_ne HT.out.own HT.out.row (by decide) hm.symm)
  have c1 : w5.cell? ⟨tb, 1, none⟩ = some (.slice ad xs.length cap) := (World.cell?_of_block (w := w) hs2).trans k1
  have c0 : w5.cell? ⟨tb, 0, none⟩ = some (.int .i64 k) := (World.cell?_of_block (w := w) hs2).trans k0
  have f1 : w5.frozen? ⟨tb, 1, none⟩ = false := by
    unfold World.frozen?
    simp only [hs2, HT.out.own]
    simp
  have Hat : Hid (v'.ownBlock = (Value.slice ad xs.length cap).ownBlock ∨ ∃ q, v'.ownBlock = some q ∧ w.heap.size ≤ q) := by
    rcases hat with h | h
    · exact .inl h
    · exact .inr ⟨_, h, by simp⟩
  have Hr2 : Hid (w5.ownsRow base 3 1 v' (xs ++ [a]).length (ints (xs ++ [a]))) := by
    show w5.ownsRow base 3 1 v' (xs ++ [a]).length (ints (xs ++ [a]))
    have := hown'
    simpa [ints] using this
  have Hs2 : Hid (w5.heap[tb]? = some (.cells #[.int .i64 k, .slice ad xs.length cap] 74 (0, 0))) := hs2.trans HT.out.own
  have HT2 : Hid (Touch (Value.slice ad xs.length cap).ownBlock.toList w w5) := t2
  obtain ⟨a3, c3, rfl⟩ := own_sl hown'
  clear hown' hgrow hat k1 k0 hs2 t2
  go_upto_region 2 with fail
  obtain ⟨w6, hw6⟩ : ∃ w6, w6 = w5.setCell ⟨tb, 1, none⟩ (.slice a3 (xs.length + 1) c3) := ⟨_, rfl⟩
  have hb6 : ∀ k, k ≠ tb → w6.heap[k]? = w5.heap[k]? := fun k hk => by rw [hw6]; exact Below.heap_setCell _ _ _ _ hk
  have hsb6 : w6.heap[tb]? = some (.cells #[.int .i64 k, .slice a3 (xs.length + 1) c3] 74 (0, 0)) := by
    rw [hw6]
    simp [World.setCell, Array.getElem?_modify, Hs2.out]
  have hsz6 : w6.heap.size = w5.heap.size := by rw [hw6]; simp [World.setCell]
  have hne : ∀ q, (Value.slice a3 (xs.length + 1) c3).ownBlock = some q → q ≠ tb := fun q hq e => by
    subst e
    exact row_ne Hs2.out Hr2.out (by decide) hq.symm
  have HE : Hid (Tu w6 base tb k (.slice a3 (xs.length + 1) c3) (xs ++ [a]) ∧ Touch (tb :: (Value.slice ad xs.length cap).ownBlock.toList) w w6) := by
    refine ⟨⟨hsb6, row_keep Hr2.out (fun q hq => hb6 q (hne q hq))⟩, ⟨by rw [hw6]; exact HT2.out.os, by rw [hw6]; exact HT2.out.tape, by rw [hw6]; exact HT2.out.output, by rw [hsz6]; exact HT2.out.size, fun k hk hn => (hb6 k (fun e => hn (by rw [e]; exact List.mem_cons_self))).trans (HT2.out.block k hk (fun e => hn (List.mem_cons_of_mem _ e)))⟩⟩
  have d0 : w6.cell? ⟨tb, 0, none⟩ = some (.int .i64 k) := cell_of_row _ _ 0 _ _ _ hsb6
  rw [← hw6]
  clear hw6 hsb6 hb6 hne c1 c0 f1 hsz6
  go_wp2
  go_ret
  exact ⟨rfl, _, HE.out.1, HE.out.2, Hat.out⟩

theorem to10_enters : ∀ args w, (callFunc 17 args).run Tryz.prog w = .ok (.enter 17 args) w := enters_of Tryz.func17 (by kernel_rfl) rfl

attribute [local go_sem] Oper.semAt_some

theorem take_snoc9 {α : Type} {xs : List α} {k : Nat} {x : α} (h : xs[k]? = some x) : xs.take k ++ [x] = xs.take (k + 1) := by
  rw [List.take_add_one, h]; rfl

set_option maxRecDepth 100000 in
set_option maxHeartbeats 2000000 in
/-- All's function, in a range: just the list. -/
theorem wAll1_full {w : World} {n1 rb ab mb mg n : Nat} {lv : Value} {l : List Int} {M : Nat → Bool} (H : Rg w n1 rb ab lv l mb mg n M) (hl : l.length ≤ 1000000) {bx : Nat} (hbx : Boxed w bx 33 (.pointer (some ⟨rb, 0, none⟩))) (n0 : Nat) :
    SeqFull Tryz.prog 31 #[.pointer (some ⟨bx, 0, none⟩)] (fun x : Int => #[Value.int .i64 x]) l n0 (fun k => lv.ownBlock = some k) w := fun n l' J W S0 hW hOwn hJ hY h0 => by
  have k0 : W.cell? ⟨bx, 0, none⟩ = some (.pointer (some ⟨rb, 0, none⟩)) := (hW.cell (p := ⟨bx, 0, none⟩) hbx.lt).trans hbx.cell
  have HW := H.below hW
  have k1 : W.cell? ⟨rb, 1, none⟩ = some lv := HW.cell 1
  have HY : Hid (∀ S pre x W1, J S pre W1 → pre ++ [x] <+: l → ∀ m, YieldAt Fence.wide m Tryz.prog l' #[Value.int .i64 x] W1 fun e W' => e = .returned (.bool true) ∧ J S (pre ++ [x]) W' ∧ (∀ k, S k → W'.heap[k]? = W1.heap[k]?) ∧ Below n0 W1 W') := hY
  have H0 : Hid (J S0 [] W) := h0
  clear hJ hY h0
  by_cases he : l = []
  · subst he
    obtain ⟨a0, c0, rfl⟩ : ∃ a cap, lv = .slice a 0 cap := own_sl H.row
    clear H HW hOwn
    refine callsIn_of_wp Tryz.func31 rfl trivial ?_ rfl
    simp only [Tryz.ntmps31, List.size_toArray, List.length_cons, List.length_nil, Nat.reduceAdd, Nat.reduceSub, Array.replicate_succ, Array.replicate_zero, List.push_toArray, List.append_toArray, List.nil_append, List.cons_append]
    gi_wp2
    gi_loopw [10] (fun i wr => i = .int .i64 0 ∧ wr = W) (fun _ _ => 0)
    case atStart => exact ⟨rfl, rfl⟩
    case round =>
      obtain ⟨rfl, rfl⟩ := hrel
      gi_wp2
      go_end0
      exact ⟨⟨_, rfl⟩, _, H0.out⟩
  · have hlp : 0 < l.length := List.length_pos_iff.2 he
    obtain ⟨q, cq, rfl⟩ := Kg.ownsRow_some H.row hlp
    have HS : Hid (S0 q) := hOwn q rfl
    have Hr : Hid (∀ (j : Nat) z, l[j]? = some z → W.cell? ⟨q, j, none⟩ = some (.int .i64 z)) := fun j z hz => by
      obtain ⟨a, cp, h1, -, h3⟩ := row_at (size := 1) (Kg.row_base HW.row (Nat.zero_le _)) (by decide)
      obtain ⟨q', e1, -, e3⟩ := h3 j (.int .i64 z) (by simp [hz])
      rw [e1] at h1
      simp at h1
      rw [h1.1]
      exact e3
    clear H HW hOwn he
    refine callsIn_of_wp Tryz.func31 rfl trivial ?_ rfl
    simp only [Tryz.ntmps31, List.size_toArray, List.length_cons, List.length_nil, Nat.reduceAdd, Nat.reduceSub, Array.replicate_succ, Array.replicate_zero, List.push_toArray, List.append_toArray, List.nil_append, List.cons_append]
    gi_wp2
    gi_loopw [10] (fun i wr => ∃ (k : Nat), k ≤ l.length ∧ i = .int .i64 k ∧ Hid (J S0 (l.take k) wr) ∧ Hid (wr.heap[q]? = W.heap[q]?)) (fun i _ => l.length - (intOf i).toNat)
    case atStart => exact ⟨0, Nat.zero_le _, rfl, H0.out, (rfl : W.heap[q]? = W.heap[q]?)⟩
    case round =>
      obtain ⟨k, hk, rfl, hJs, hgr⟩ := hrel
      by_cases hlt : k < l.length
      · obtain ⟨x, hx⟩ : ∃ x, l[k]? = some x := ⟨_, List.getElem?_eq_getElem hlt⟩
        have hcx : wr.cell? ⟨q, k, none⟩ = some (.int .i64 x) := (World.cell?_of_block (w := W) hgr.out).trans (Hr.out k x hx)
        have hsn := take_snoc9 hx
        obtain ⟨fn, tmps, assign, body, hy, hR⟩ := HY.out S0 (l.take k) x wr hJs.out (by rw [hsn]; exact List.take_prefix _ _) (n - 1)
        have Hsn : Hid (l.take k ++ [x] = l.take (k + 1)) := hsn
        have hki : (k : Int) < (l.length : Int) := by omega
        clear hsn hx
        gi_wp2
        refine ⟨fun h => (by cases h), hR.mono ?_⟩
        rintro e W3 ⟨rfl, hJ3, hS3, hk3⟩
        rw [Hsn.out] at hJ3
        have hJ3' : Hid (J S0 (l.take (k + 1)) W3) := hJ3
        have hg3 : Hid (W3.heap[q]? = W.heap[q]?) := (hS3 q HS.out).trans hgr.out
        clear hJ3 hS3 hk3
        gi_wp2
        go_roundw
        case rel => exact ⟨k + 1, hlt, by go_num, hJ3', hg3⟩
        case measure => simp [intOf]; omega
      · obtain rfl : k = l.length := by omega
        have hJs' := hJs.out
        rw [List.take_length] at hJs'
        gi_wp2
        go_end0
        exact ⟨⟨_, rfl⟩, S0, hJs'⟩

end Go.Proofs.YtbgnagjhkfkekaaGreatDoor

