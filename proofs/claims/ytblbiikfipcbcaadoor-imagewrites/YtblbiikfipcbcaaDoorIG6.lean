/-
  Images: Finals.
-/
import Derived.Test.YtblbiikfipcbcaaDoorIG5
import Derived.Maps.AppendAt
import Derived.Deep.Cut
set_option linter.unusedVariables false
set_option maxRecDepth 20000
namespace Go.Proofs.YtblbiikfipcbcaaDoor
open Go.RowKit Go.Shelf

theorem own_slI {w : World} {base n e size : Nat} {v : Value} {xs : List Value} (h : w.ownsRow base e size v n xs) : ∃ a cap, v = .slice a n cap := by
  rcases h.2 with ⟨rfl, rfl⟩ | ⟨g, cap, cur, rfl, _⟩
  · exact ⟨_, _, rfl⟩
  · exact ⟨_, _, rfl⟩

theorem fins_snoc (l : List Im.Ob) (o : Im.Ob) : Im.fins (l ++ [o]) = Im.fins l ++ (if o.kind = 4 then [((l.length : Nat) : Int) + 1] else []) := by
  have h := Im.finsFrom_snoc l 0 o
  rw [Nat.zero_add] at h
  exact h

theorem fins_len (l : List Im.Ob) : (Im.fins l).length ≤ l.length := by
  have : ∀ (l : List Im.Ob) (i : Nat), (Im.finsFrom i l).length ≤ l.length := by
    intro l
    induction l with
    | nil => intro i; simp [Im.finsFrom]
    | cons x r ih =>
      intro i
      simp only [Im.finsFrom]
      have := ih (i + 1)
      split <;> simp <;> omega
  exact this l 0

set_option maxHeartbeats 4000000 in
/-- Finals. -/
theorem gFinals_any (n0 : Nat) (w : World) (vo : Value) (os : List OL) (ho : Ord n0 w vo os) (hn : n0 ≤ w.heap.size) (hol : os.length ≤ 1000000000000) (hkd : ∀ x, x ∈ os → InI x.o.kind) :
    Calls Tryd.prog 52 #[vo] w fun e w' => ∃ v, e = .returned v ∧ Below w.heap.size w w' ∧ w'.ownsRow w.heap.size 3 1 v (Im.fins (os.map (·.o))).length (Kg.ints (Im.fins (os.map (·.o)))) := by
  obtain ⟨i0, hi0, hj0, hj1, hj2⟩ := info_parts Kg.Tryd.infoInt
  have HI : Hid (Tryd.prog.info? 3 = some i0 ∧ i0.zero = some (.int .i64 0) ∧ i0.size = 1 ∧ i0.bytes = 8) := ⟨hi0, hj0, hj1, hj2⟩
  clear hi0 hj0 hj1 hj2
  have Ho : Hid (Ord n0 w vo os) := ho
  have Hkd : Hid (∀ x, x ∈ os → InI x.o.kind) := hkd
  obtain ⟨a, cap, rfl, -⟩ := ho
  clear hkd
  go_enter Tryd.func52, Tryd.ntmps52
  go_wp2
  go_loopw [3, 8] (fun v3 v8 wr => ∃ k : Nat, k ≤ os.length ∧ v8 = .int .i64 k ∧ Hid (wr.ownsRow w.heap.size 3 1 v3 (Im.fins ((os.map (·.o)).take k)).length (Kg.ints (Im.fins ((os.map (·.o)).take k)))) ∧ Hid (Below w.heap.size w wr)) (fun _ v8 _ => os.length - (intOf v8).toNat)
  case atStart => exact ⟨0, Nat.zero_le _, rfl, World.ownsRow_nil _ _ _ _, Below.refl _ _⟩
  case round =>
    obtain ⟨k, hk, rfl, Hl, Hb⟩ := hrel
    obtain ⟨al, cl, hvl⟩ := own_slI Hl.out
    subst hvl
    by_cases hkl : k < os.length
    · have hki : (k : Int) < (os.length : Int) := by omega
      have hz : os[k]? = some (os[k]'hkl) := List.getElem?_eq_getElem hkl
      generalize os[k]'hkl = x at hz
      obtain ⟨a', cap', ea, hob⟩ := Ho.out.below (Hb.out.mono hn)
      cases ea
      obtain ⟨hp, hr, q, off, rfl, hq, hc⟩ := hob k x hz
      have c0 : wr.cell? ⟨q, off + k * 5, none⟩ = some (.int .u64 x.o.ser) := hc 0 (by omega)
      have c1 : wr.cell? ⟨q, off + k * 5 + 1, none⟩ = some (.int .i64 x.o.kind) := hc 1 (by omega)
      have c2 : wr.cell? ⟨q, off + k * 5 + 2, none⟩ = some (.int .i64 x.o.site) := hc 2 (by omega)
      have c3 : wr.cell? ⟨q, off + k * 5 + 3, none⟩ = some x.vp := hc 3 (by omega)
      have c4 : wr.cell? ⟨q, off + k * 5 + 4, none⟩ = some x.vr := hc 4 (by omega)
      obtain ⟨ap, cp, ep, -⟩ := hp
      obtain ⟨ar, cr, er, -⟩ := hr
      rw [ep] at c3
      rw [er] at c4
      have Hz : Hid ((os.map (·.o))[k]? = some x.o) := by rw [List.getElem?_map, hz]; rfl
      clear hob hc hz ep er
      have Hfl : Hid ((Im.fins ((os.map (·.o)).take k)).length ≤ 1000000000000) := by
        have h3 := fins_len ((os.map (·.o)).take k)
        rw [List.length_take, List.length_map] at h3
        show _ ≤ _
        omega
      by_cases h4 : x.o.kind = 4
      · have h4b : (x.o.kind == 4) = true := by simp [h4]
        have He : Hid (Im.fins ((os.map (·.o)).take (k + 1)) = Im.fins ((os.map (·.o)).take k) ++ [(k : Int) + 1]) := by
          have h3 : ((os.map (·.o)).take k).length = k := by rw [List.length_take, List.length_map]; omega
          rw [take_snocL Hz.out, fins_snoc, if_pos h4, h3]; rfl
        go_upto_region 5 with fail
        have lA : Below wr.heap.size wr (wr.alloc (.cells (ocs x.o.ser 4 x.o.site (.slice ap x.o.ps.length cp) (.slice ar x.o.rs.length cr)) 72)) := Below.alloc (Below.refl _ _) (Nat.le_refl _) _
        have hA : (wr.alloc (.cells (ocs x.o.ser 4 x.o.site (.slice ap x.o.ps.length cp) (.slice ar x.o.rs.length cr)) 72)).cell? ⟨wr.heap.size, 1, none⟩ = some (.int .i64 4) := cell_of_row _ _ 1 _ _ _ (heap_alloc_new wr (.cells (ocs x.o.ser 4 x.o.site (.slice ap x.o.ps.length cp) (.slice ar x.o.rs.length cr)) 72 (0, 0)))
        have HlA : Hid ((wr.alloc (.cells (ocs x.o.ser 4 x.o.site (.slice ap x.o.ps.length cp) (.slice ar x.o.rs.length cr)) 72)).ownsRow w.heap.size 3 1 (.slice al (Im.fins ((os.map (·.o)).take k)).length cl) (Im.fins ((os.map (·.o)).take k)).length (Kg.ints (Im.fins ((os.map (·.o)).take k)))) := Hl.out.alloc _
        have HbA : Hid (Below w.heap.size w (wr.alloc (.cells (ocs x.o.ser 4 x.o.site (.slice ap x.o.ps.length cp) (.slice ar x.o.rs.length cr)) 72))) := Hb.out.alloc Hb.out.size _
        rw [show (#[.int .u64 x.o.ser, .int .i64 4, .int .i64 x.o.site, .slice ap x.o.ps.length cp, .slice ar x.o.rs.length cr] : Array Value) = ocs x.o.ser 4 x.o.site (.slice ap x.o.ps.length cp) (.slice ar x.o.rs.length cr) from rfl]
        generalize wr.alloc (.cells (ocs x.o.ser 4 x.o.site (.slice ap x.o.ps.length cp) (.slice ar x.o.rs.length cr)) 72) = wA at *
        clear lA c0 c1 c2 c3 c4
        go_wp2_with (at_builtin; refine wpList_append_own_at _ rfl _ _ 26 rfl w.heap.size 3 i0 (.int .i64 0) 1 8 Tryd.underlying26 HI.out.1 HI.out.2.1 HI.out.2.2.1 HI.out.2.2.2 rfl (by decide) _ _ _ rfl (HlA.out.alloc _) ⟨wA.heap.size, 0, none⟩ 1 1 [.int .i64 ((k : Int) + 1)] rfl rfl (cell_one_new _ _ _) (by simp [Value.oneCell']) (by have := Hfl.out; simp [maxLen]; omega) (by have := Hfl.out; omega) (by have := HbA.out.size; simp; omega) ?_; intro v' w8 hown' hgrow _ hat)
        have t8 : Kg.Touch (Value.slice al (Im.fins ((os.map (·.o)).take k)).length cl).ownBlock.toList wA w8 := ⟨hgrow.os, hgrow.tape, hgrow.output, by have := hgrow.size; simp at this; omega, fun k hk hn => (hgrow.block k (by simp; omega) (fun e => hn (by rw [Option.mem_toList]; exact e.symm))).trans (Below.heap_alloc _ _ _ hk)⟩
        have Hl8 : Hid (w8.ownsRow w.heap.size 3 1 v' (Im.fins ((os.map (·.o)).take (k + 1))).length (Kg.ints (Im.fins ((os.map (·.o)).take (k + 1))))) := by
          show w8.ownsRow _ _ _ _ _ _
          rw [He.out]
          simpa [Kg.ints] using hown'
        have Hb8 : Hid (Below w.heap.size w w8) := HbA.out.trans (t8.below HbA.out.size (fun y hy => by rw [Option.mem_toList] at hy; exact (HlA.out.lt y hy).1))
        obtain ⟨a9, c9, hv9⟩ := own_slI Hl8.out
        subst hv9
        clear hown' hgrow hat t8 Hl Hb HlA HbA
        go_wp2
        go_roundw
        case rel => exact ⟨k + 1, by omega, by go_num, Hl8, Hb8⟩
        case measure => simp [intOf]; omega
      · have h4b : (x.o.kind == 4) = false := by simp [h4]
        have He : Hid (Im.fins ((os.map (·.o)).take (k + 1)) = Im.fins ((os.map (·.o)).take k)) := by
          rw [take_snocL Hz.out, fins_snoc, if_neg h4, List.append_nil]; rfl
        go_wp2
        go_roundw
        case rel => exact ⟨k + 1, by omega, by go_num, by rw [He.out]; exact Hl.out.alloc _, Hb.out.alloc Hb.out.size _⟩
        case measure => simp [intOf]; omega
    · have hki : ¬ (k : Int) < (os.length : Int) := by omega
      have e9 : (os.map (·.o)).take k = os.map (·.o) := List.take_of_length_le (by simp; omega)
      rw [e9] at Hl
      go_wp2
      go_ret
      exact ⟨_, rfl, Hb.out, Hl.out⟩

end Go.Proofs.YtblbiikfipcbcaaDoor
