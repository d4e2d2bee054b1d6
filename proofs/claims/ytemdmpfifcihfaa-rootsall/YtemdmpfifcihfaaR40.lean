/-
  The document's Dequeue.
-/
import Derived.Test.YtemdmpfifcihfaaR39
set_option linter.unusedVariables false
namespace Go.Proofs.Ytemdmpfifcihfaa
open Go.RowKit

set_option maxRecDepth 20000 in
theorem rdequeue_any (base b : Nat) (S : Sta) (F : List Nat) (w : World) (H : Rfs w base b S F) (hb : base ≤ w.heap.size) (hn : S.qs.length < 8796093022208) :
    Calls Try.prog 60 #[.pointer (some ⟨b, 0, none⟩)] w fun e w' => e = .returned (.tuple #[.int .i64 (S.qs.headD 0), .bool (!S.qs.isEmpty)]) ∧ ∃ F', Rfs w' base b S.deqS F' ∧ Touch F w w' ∧ Newer w.heap.size F F' := by
  obtain ⟨vt, vs, H, rfl⟩ := H
  have c3 := H.cell3
  obtain ⟨i0, hi0, hz0, hz1, hz2⟩ := info_parts Try.infoInt
  have HH : Hid ((Try.prog.info? 3 = some i0) ∧ i0.zero = some (.int .i64 0) ∧ i0.size = 1 ∧ i0.bytes = 8) := ⟨hi0, hz0, hz1, hz2⟩
  clear hi0 hz0 hz1 hz2
  have HR : Hid (Rf w base b vt vs S ∧ base ≤ w.heap.size ∧ S.qs.length < 8796093022208) := ⟨H, hb, hn⟩
  have hq := H.que
  obtain ⟨aq, cq, eq⟩ := own_slice hq
  rw [eq] at c3
  cases ex : S.qs with
  | nil =>
    have e3 : S.deqS = S := by unfold Sta.deqS; cases S; simp only at ex; subst ex; rfl
    rw [ex] at c3
    rw [e3]
    simp only [List.headD_nil, List.isEmpty_nil, Bool.not_true]
    simp only [List.length_nil] at c3
    clear H hb hn hq eq ex e3
    go_enter Try.func60, Try.ntmps60
    go_wp2
    go_ret2
    exact ⟨rfl, _, ⟨vt, vs, HR.out.1, rfl⟩, Touch.refl _ _, Newer.refl _ _⟩
  | cons y qs =>
    obtain ⟨g, cap, e, hcap, hmx⟩ := own_addr hq (by rw [ex]; simp)
    rw [e] at eq
    simp only [Value.slice.injEq, true_and] at eq
    obtain ⟨rfl, rfl⟩ := eq
    rw [e] at hq
    have hcs := hq.cells (g := g) rfl
    have hc0 : w.cell? ⟨g, 0, none⟩ = some (.int .i64 y) := by
      have := hcs 0 (.int .i64 y) (by rw [ex]; rfl)
      rwa [Addr.add_lit, Nat.zero_add] at this
    have e3 : S.deqS = { S with qs := qs } := by unfold Sta.deqS; rw [ex]; rfl
    simp only [List.headD_cons, List.isEmpty_cons, Bool.not_false]
    rw [ex] at c3 hcap
    simp only [List.length_cons] at c3 hcap
    have HN : Hid (∀ j u, (ints qs)[j]? = some u → w.cell? ((⟨g, 1, none⟩ : Addr).add j) = some u) := fun j u hj => by
      have := hcs (j + 1) u (by rw [ex]; simpa [ints] using hj)
      rw [Addr.add_lit] at this ⊢
      rwa [show 1 + j = 0 + (j + 1) by omega]
    have HO : Hid (∀ u ∈ ints qs, u.oneCell' = true) := fun u hu => by
      obtain ⟨i, -, rfl⟩ := List.mem_map.1 hu; rfl
    have Hn : Hid (qs.length < 8796093022208 ∧ S.deqS = { S with qs := qs }) := ⟨by rw [ex] at hn; simp at hn; omega, e3⟩
    have h1 : qs.length + 1 ≤ cap := hcap
    have h2 : cap ≤ maxLen := hmx
    clear H hb hn hq ex e3 hcs e hcap hmx
    by_cases hc1 : cap = 1
    · obtain rfl : qs = [] := List.eq_nil_of_length_eq_zero (by omega)
      subst hc1
      simp only [List.length_nil, Nat.zero_add] at c3
      clear h1 h2 HN HO
      go_enter Try.func60, Try.ntmps60
      go_wp2_with (at_builtin; refine wpList_append_own_at _ rfl _ _ 31 rfl base 3 i0 (.int .i64 0) 1 8 Try.underlying31 HH.out.1 HH.out.2.1 HH.out.2.2.1 HH.out.2.2.2 rfl (by decide) (.slice none 0 0) 0 [] rfl (World.ownsRow_nil _ _ _ _) ⟨g, 0, none⟩ 0 0 [] rfl rfl (fun j u h => by simp at h) (fun u h => by simp at h) (by simp [maxLen]) (by omega) HR.out.2.1 ?_)
      intro v' w1 ho hg _ hat
      obtain ⟨a', c', ev⟩ := own_slice ho
      subst ev
      have ht : Touch (vs (S.T * 2 + 1)).ownBlock.toList w w1 := Touch.grown hg (fun k hk => by simp [Value.ownBlock] at hk)
      obtain ⟨q1, q2, F', q3, q4, q5⟩ := HR.out.1.setQ (v' := .slice a' (0 + 0) c') (qs' := []) ht (by simpa [ints] using ho) (fun k e => by
        rcases hat with h | h
        · rw [h] at e; simp [Value.ownBlock] at e
        · rw [h] at e; simp at e; exact .inr (by omega))
      have HF : Hid (Rfs (w1.setCell ⟨b, 3, none⟩ (.slice a' (0 + 0) c')) base b S.deqS F' ∧ Touch (rfp b vt S.T vs) w (w1.setCell ⟨b, 3, none⟩ (.slice a' (0 + 0) c')) ∧ Newer w.heap.size (rfp b vt S.T vs) F') := by rw [Hn.out.2]; exact ⟨q3, q4, q5⟩
      clear ho hg hat ht q3 q4 q5 hc0 c3
      go_wp2
      go_ret2
      exact ⟨rfl, F', HF.out⟩
    · have h3 : 1 < cap := by omega
      have h4 : 1 ≤ cap := by omega
      clear hc1
      go_enter Try.func60, Try.ntmps60
      go_wp2_with (at_builtin; refine wpList_append_own_at _ rfl _ _ 31 rfl base 3 i0 (.int .i64 0) 1 8 Try.underlying31 HH.out.1 HH.out.2.1 HH.out.2.2.1 HH.out.2.2.2 rfl (by decide) (.slice none 0 0) 0 [] rfl (World.ownsRow_nil _ _ _ _) ⟨g, 1, none⟩ qs.length (cap - 1) (ints qs) rfl (by simp [ints]) HN.out HO.out (by have := Hn.out.1; simp [maxLen]; omega) (by have := Hn.out.1; omega) HR.out.2.1 ?_)
      intro v' w1 ho hg _ hat
      obtain ⟨a', c', ev⟩ := own_slice ho
      subst ev
      have ht : Touch (vs (S.T * 2 + 1)).ownBlock.toList w w1 := Touch.grown hg (fun k hk => by simp [Value.ownBlock] at hk)
      obtain ⟨q1, q2, F', q3, q4, q5⟩ := HR.out.1.setQ (v' := .slice a' qs.length c') (qs' := qs) ht (by simpa [ints] using ho) (fun k e => by
        rcases hat with h | h
        · rw [h] at e; simp [Value.ownBlock] at e
        · rw [h] at e; simp at e; exact .inr (by omega))
      have HF : Hid (Rfs (w1.setCell ⟨b, 3, none⟩ (.slice a' qs.length c')) base b S.deqS F' ∧ Touch (rfp b vt S.T vs) w (w1.setCell ⟨b, 3, none⟩ (.slice a' qs.length c')) ∧ Newer w.heap.size (rfp b vt S.T vs) F') := by rw [Hn.out.2]; exact ⟨q3, q4, q5⟩
      clear ho hg hat ht q3 q4 q5 hc0 c3
      go_wp2
      go_ret2
      exact ⟨rfl, F', HF.out⟩

end Go.Proofs.Ytemdmpfifcihfaa
