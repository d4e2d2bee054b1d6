/-
  slices.Insert of a word, at the end.
-/
import Derived.Test.YtcjblafohfiiaabGreatInsT
set_option linter.unusedVariables false
namespace Go.Proofs.YtcjblafohfiiaabGreat
open Go.RowKit

theorem Tryz.infoU64 : (Tryz.prog.info? 29).map (fun i => (i.zero, i.size, i.bytes)) = some (some (.int .u64 0), 1, 8) := by kernel_rfl

theorem ins_end {α : Type} (l : List α) (k : α) (p : Nat) (hp : p = l.length) : ins l p k = l ++ [k] := by subst hp; simp [ins]

set_option maxRecDepth 100000 in
set_option maxHeartbeats 1000000 in
theorem insU_any (base n i vb : Nat) (v x : Value) (xs : List Value) (w : World) (hr : w.ownsRow base 29 1 v n xs) (hi : i = n) (hvb : w.heap[vb]? = some (.cells #[x] 29 (0, 0))) (hne : some vb ≠ v.ownBlock)
    (hbase : base ≤ w.heap.size) (hlen : n < 1000000) (h1c : ∀ u ∈ xs, u.oneCell' = true) (h1x : x.oneCell' = true) :
    Calls Tryz.prog 89 #[v, .int .i64 i, .slice (some ⟨vb, 0, none⟩) 1 1] w fun e w' => ∃ v', e = .returned v' ∧ Inserted w w' base 29 v v' n i xs x := by
  subst hi
  obtain ⟨hvs, _⟩ := one_facts hvb
  have hx1 : ∀ u ∈ [x], u.oneCell' = true := by simpa using h1x
  have hl : xs.length = i := by simpa using hr.1
  have hnews : ∀ (j : Nat) u, [x][j]? = some u → w.cell? ((⟨vb, 0, none⟩ : Addr).add j) = some u := fun j u hu => by rw [add_zero_lit]; exact hvs j u hu
  obtain ⟨i0, hi, hz0, hz1, hz2⟩ := info_parts Tryz.infoU64
  have fin : ∀ v' w1, w1.ownsRow base 29 1 v' (i + 1) (xs ++ [x]) → w.grownBy w1 v.ownBlock → (v'.ownBlock = v.ownBlock ∨ v'.ownBlock = some w.heap.size) → Inserted w w1 base 29 v v' i i xs x := fun v' w1 h1 h2 h3 =>
    ⟨by rw [ins_end xs x i hl.symm]; exact h1, Touch.grown h2 (fun k hk => by simp [hk]), h3.imp_right (fun e => ⟨_, e, Nat.le_refl _⟩)⟩
  rcases hr.2 with ⟨rfl, h0⟩ | ⟨g, cap, cur, rfl, _, hg, hn, hm, hs, ht⟩
  · subst h0
    go_enter Tryz.func89, Tryz.ntmps89
    go_wp2_with (at_builtin; refine wpList_append_own_at _ rfl _ _ 69 rfl base 29 i0 (.int .u64 0) 1 8 Tryz.underlying69 hi hz0 hz1 hz2 rfl (by decide) _ _ _ rfl hr ⟨vb, 0, none⟩ 1 1 [x] rfl rfl hnews hx1 (by decide) (by decide) hbase ?_)
    intro v' w1 hown' hgrow _ hat
    go_wp2
    go_ret
    exact ⟨_, rfl, fin _ _ hown' hgrow hat⟩
  · unfold maxLen at hm
    clear hg ht
    go_enter Tryz.func89, Tryz.ntmps89
    go_wp2_with (at_builtin; refine wpList_append_own_at _ rfl _ _ 69 rfl base 29 i0 (.int .u64 0) 1 8 Tryz.underlying69 hi hz0 hz1 hz2 rfl (by decide) _ _ _ rfl hr ⟨vb, 0, none⟩ 1 1 [x] rfl rfl hnews hx1 (by simp [maxLen]; omega) (by omega) hbase ?_)
    all_goals
      intro v' w1 hown' hgrow _ hat
      go_wp2
      go_ret
      exact ⟨_, rfl, fin _ _ hown' hgrow hat⟩

end Go.Proofs.YtcjblafohfiiaabGreat
