/-
  The table of words by number, gone through: what All gives.
-/
import Derived.Test.YtcjblafohfiiaabGreatWtt
import Derived.Test.YtcjblafohfiiaabGreatIn
set_option linter.unusedVariables false
namespace Go.Proofs.YtcjblafohfiiaabGreat.Wd
open Go.RowKit Go.Shelf

theorem sliceU_of_row {W : World} {base n0 : Nat} {v : Value} {n : Nat} {zs : List Int} (h : W.ownsRow base 29 1 v n (u64s zs)) (hn : n = zs.length) (hn0 : W.heap.size ≤ n0) : SliceU n0 W v zs := by
  subst hn
  rcases h.2 with ⟨rfl, h0⟩ | ⟨g, cap, cur, rfl, hb, hg, hn, hm, hs, ht⟩
  · exact .inl ⟨rfl, List.eq_nil_of_length_eq_zero h0⟩
  · refine .inr ⟨g, 0, cap, rfl, by have := heap_lt hg; omega, fun j x hj => ?_⟩
    have hjl := (List.getElem?_eq_some_iff.1 hj).1
    rw [Nat.zero_add, h.cellAt _ (by omega)]
    simp [hj]

theorem tab_walked {W : World} {base b Bl : Nat} {ks vs : List Int} {F : List Nat} (h : ITab W base b ks vs F) (hbl : W.cell? ⟨Bl, 0, none⟩ = some (.pointer (some ⟨b, 0, none⟩))) (hlen : ks.length < 1000000) : WalkedP Tryz.prog 116 Bl ks vs W := by
  obtain ⟨vk, vv, hh, hb, hk, hv, hl, hs, rfl⟩ := h
  have h0 := heap_cell hh 0
  have h1 := heap_cell hh 1
  simp only [List.getElem?_toArray, List.getElem?_cons_zero, List.getElem?_cons_succ] at h0 h1
  have s0 := slice_of_row hk rfl (Nat.le_refl _)
  have s1 := sliceU_of_row hv rfl (Nat.le_refl _)
  obtain ⟨a, n, c, rfl⟩ : ∃ a n c, vk = .slice a n c := by rcases s0 with ⟨rfl, _⟩ | ⟨_, _, _, rfl, _⟩ <;> exact ⟨_, _, _, rfl⟩
  obtain ⟨a', n', c', rfl⟩ : ∃ a n c, vv = .slice a n c := by rcases s1 with ⟨rfl, _⟩ | ⟨_, _, _, rfl, _⟩ <;> exact ⟨_, _, _, rfl⟩
  exact allI_any Bl b _ _ _ _ _ _ ks vs W hbl h0 h1 s0 s1 hl hlen

theorem tall_any (bt : Nat) (w : World) :
    Calls Tryz.prog 93 #[.pointer (some ⟨bt, 0, none⟩)] w fun e w' => e = .returned (.func (.func 116) #[] #[.pointer (some ⟨w.heap.size, 0, none⟩)]) ∧ w' = w.alloc (.cells #[.pointer (some ⟨bt, 0, none⟩)] 39) := by
  go_enter Tryz.func93, Tryz.ntmps93
  go_wp2
  go_ret
  exact ⟨rfl, rfl⟩

theorem seq_not_nil (Bl : Nat) (W : World) : (binOp BinOp.eql 141 (.func (.func 116) #[] #[.pointer (some ⟨Bl, 0, none⟩)]) .nilFunc).run Tryz.prog W = .ok (.bool false) W := by
  kernel_rfl

end Go.Proofs.YtcjblafohfiiaabGreat.Wd
