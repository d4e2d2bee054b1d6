/-
  slices.Clone of numbers; Frames; the top frame; Get, Set.
-/
import Derived.Test.YtemdmpfifcihfaaR7
set_option linter.unusedVariables false
namespace Go.Proofs.Ytemdmpfifcihfaa
open Go.RowKit

set_option maxRecDepth 20000 in
set_option maxHeartbeats 1000000 in
theorem clone_own (base n : Nat) (v : Value) (xs : List Int) (w : World) (hr : w.ownsRow base 3 1 v n (ints xs)) (hn : n < 8796093022208) :
    Calls Try.prog 43 #[v] w fun e w' => ∃ v', e = .returned v' ∧ w'.ownsRow w.heap.size 3 1 v' n (ints xs) ∧ Below w.heap.size w w' := by
  obtain ⟨i0, hi0, hz0, hz1, hz2⟩ := info_parts Try.infoInt
  have hl := hr.1
  rcases hr.2 with ⟨rfl, rfl⟩ | ⟨g, cap, cur, rfl, -⟩
  · have hx : ints xs = [] := List.eq_nil_of_length_eq_zero (by simpa using hl)
    rw [hx]
    have hnil : ∀ w, (binOp .eql 31 (.slice none 0 0) (.slice none 0 0)).run Try.prog w = .ok (.bool true) w := fun w => by first | rfl | kernel_rfl | (simp [binOp, go_sem]; done)
    clear hr hl hx hi0 hz0 hz1 hz2
    go_enter Try.func43, Try.ntmps43
    go_wp2
    go_ret
    exact ⟨_, rfl, World.ownsRow_nil _ _ _ _, Below.refl _ _⟩
  · have hnil : ∀ w, (binOp .eql 31 (.slice (some ⟨g, 0, none⟩) n cap) (.slice none 0 0)).run Try.prog w = .ok (.bool false) w := fun w => by first | rfl | kernel_rfl | (simp [binOp, go_sem]; done)
    have HN : Hid (∀ j u, (ints xs)[j]? = some u → (w.alloc (.cells #[] 3)).cell? ((⟨g, 0, none⟩ : Addr).add j) = some u) := (hr.alloc (.cells #[] 3)).cells (g := g) rfl
    have HO : Hid (∀ u ∈ ints xs, u.oneCell' = true) := fun u hu => by
      obtain ⟨i, -, rfl⟩ := List.mem_map.1 hu; rfl
    have HL : Hid ((ints xs).length = n * 1) := hl
    have HH : Hid ((Try.prog.info? 3 = some i0) ∧ i0.zero = some (.int .i64 0) ∧ i0.size = 1 ∧ i0.bytes = 8) := ⟨hi0, hz0, hz1, hz2⟩
    have HW : Hid ((w.alloc (.cells #[] 3)).ownsRow w.heap.size 3 1 (.slice (some ⟨w.heap.size, 0, none⟩) 0 0) 0 []) :=
      ⟨rfl, .inr ⟨w.heap.size, 0, #[], rfl, Nat.le_refl _, heap_alloc_new w _, Nat.le_refl _, by decide, rfl, rfl⟩⟩
    have hb1 : Below w.heap.size w (w.alloc (.cells #[] 3)) := Below.alloc (Below.refl _ _) (Nat.le_refl _) _
    have Hn : Hid (n < 8796093022208) := hn
    clear hr hi0 hz0 hz1 hz2 hl hn
    go_enter Try.func43, Try.ntmps43
    go_wp2_with (at_builtin; refine wpList_append_own_at _ rfl _ _ 31 rfl w.heap.size 3 i0 (.int .i64 0) 1 8 Try.underlying31 HH.out.1 HH.out.2.1 HH.out.2.2.1 HH.out.2.2.2 rfl (by decide) _ _ _ rfl HW.out ⟨g, 0, none⟩ n cap (ints xs) rfl HL.out HN.out HO.out (by have := Hn.out; simp [maxLen]; omega) (by have := Hn.out; omega) (by simp) ?_)
    intro v' w2 ho hg _ _
    have hb2 : Below w.heap.size w w2 := hb1.grown hg hb1.size (fun k e => by simp [Value.ownBlock] at e; omega)
    have ho2 : w2.ownsRow w.heap.size 3 1 v' n (ints xs) := by simpa using ho
    obtain ⟨a, c, rfl⟩ := own_slice ho2
    have HO2 : Hid (w2.ownsRow w.heap.size 3 1 (.slice a n c) n (ints xs)) := ho2
    clear ho hg hb1 ho2
    go_wp2
    go_ret
    exact ⟨_, rfl, HO2.out, hb2⟩

/-- What Frames tells. -/
def Sta.frames (S : Sta) (t : Int) : List Int := if 0 ≤ t ∧ t < S.T then S.rw (t.toNat * 2) else []

theorem frames_in (base b g T cap t n : Nat) (v : Value) (xs : List Int) (w : World) (h0 : w.cell? ⟨b, 0, none⟩ = some (.slice (some ⟨g, 0, none⟩) T cap)) (ht : t < T) (hT : T ≤ 8) (h1 : w.cell? ⟨g, t * 2, none⟩ = some v)
    (hr : w.ownsRow base 3 1 v n (ints xs)) (hn : n < 8796093022208) :
    Calls Try.prog 20 #[.pointer (some ⟨b, 0, none⟩), .int .i64 t] w fun e w' => ∃ v', e = .returned v' ∧ w'.ownsRow w.heap.size 3 1 v' n (ints xs) ∧ Below w.heap.size w w' := by
  have hth := thread_in b g T t cap w h0 ht hT
  have hcl := clone_own base n v xs w hr hn
  obtain ⟨a, c, rfl⟩ := own_slice hr
  clear hr hn
  go_enter Try.func20, Try.ntmps20
  go_wp2_with fail
  refine hth.mono ?_
  rintro e w' ⟨rfl, rfl⟩
  go_wp2_with fail
  refine hcl.mono ?_
  rintro e w1 ⟨v', rfl, ho, hb⟩
  clear hth hcl
  obtain ⟨a', c', rfl⟩ := own_slice ho
  go_wp2
  go_ret
  exact ⟨_, rfl, ho, hb⟩

theorem frames_out (b g T cap : Nat) (t : Int) (w : World) (h0 : w.cell? ⟨b, 0, none⟩ = some (.slice (some ⟨g, 0, none⟩) T cap)) (ht : ¬ (0 ≤ t ∧ t < T)) (hT : T ≤ 8) :
    Calls Try.prog 20 #[.pointer (some ⟨b, 0, none⟩), .int .i64 t] w fun e w' => e = .returned (.slice none 0 0) ∧ w = w' := by
  have hth := thread_out b g T cap t w h0 ht hT
  clear ht
  go_enter Try.func20, Try.ntmps20
  go_wp2_with fail
  refine hth.mono ?_
  rintro e w' ⟨rfl, rfl⟩
  go_wp2
  go_ret
  exact ⟨rfl, rfl⟩

theorem frames_any (base b N : Nat) (t : Int) (S : Sta) (F : List Nat) (w : World) (H : Rts w base b N S F) (hO : S.Ok) :
    Calls Try.prog 20 #[.pointer (some ⟨b, 0, none⟩), .int .i64 t] w fun e w' => ∃ v', e = .returned v' ∧ w'.ownsRow w.heap.size 3 1 v' (S.frames t).length (ints (S.frames t)) ∧ Below w.heap.size w w' := by
  obtain ⟨g, h, q, FQ, vs, H, rfl⟩ := H
  by_cases ht : 0 ≤ t ∧ t < S.T
  · obtain ⟨t, rfl⟩ := Int.eq_ofNat_of_zero_le ht.1
    have ht2 : t < S.T := by omega
    have e : S.frames t = S.rw (t * 2) := by unfold Sta.frames; rw [if_pos ht]; rfl
    rw [e]
    have := hO.frames ht2
    exact frames_in base b g S.T S.T t _ _ _ w H.c0 ht2 hO.T8 (H.thr.cell (by omega)) (H.row (t * 2) (by omega)) (by omega)
  · have e : S.frames t = [] := by unfold Sta.frames; rw [if_neg ht]
    rw [e]
    refine (frames_out b g S.T S.T t w H.c0 ht hO.T8).mono ?_
    rintro e' w' ⟨rfl, rfl⟩
    exact ⟨_, rfl, World.ownsRow_nil _ _ _ _, Below.refl _ _⟩

end Go.Proofs.Ytemdmpfifcihfaa
