/-
  slices.Insert at strings and at numbers.
-/
import Derived.Test.YtcjblafohfiiaabGreatIns
set_option linter.unusedVariables false
namespace Go.Proofs.YtcjblafohfiiaabGreat
open Go.RowKit

theorem row_facts {w : World} {base g n cap : Nat} {e : TypeId} {xs : List Value} (h : w.ownsRow base e 1 (.slice (some ⟨g, 0, none⟩) n cap) n xs) :
    xs.length = n ∧ n ≤ cap ∧ cap ≤ maxLen ∧ (∀ (j : Nat) u, xs[j]? = some u → w.cell? ⟨g, 0 + j, none⟩ = some u) ∧ (∀ j, j < cap → (w.cell? ⟨g, 0 + j, none⟩).isSome = true) ∧ (∀ j, w.frozen? ⟨g, 0 + j, none⟩ = false) ∧ w.shape? g = some (e, cap) := by
  obtain ⟨h1, h2⟩ := h
  rcases h2 with ⟨h2, _⟩ | ⟨g', cap', cur, hv, hb, hg, hn, hm, hs, ht⟩
  · simp at h2
  simp only [Value.slice.injEq, Option.some.injEq, Addr.mk.injEq, true_and, and_true] at hv
  obtain ⟨rfl, rfl⟩ := hv
  have hsz : cur.size = cap := by simpa using hs
  refine ⟨by simpa using h1, hn, hm, fun j u hu => ?_, fun j hj => ?_, fun j => by simp [World.frozen?, hg], by simp [World.shape?, hg, hsz]⟩
  · have hj := (List.getElem?_eq_some_iff.1 hu).1
    rw [h1] at hj
    rw [Nat.zero_add, cell_of_row w g j cur e (0, 0) hg, ← hu, ← ht, List.getElem?_take, if_pos hj, Array.getElem?_toList]
  · rw [Nat.zero_add, cell_of_row w g j cur e (0, 0) hg, Array.getElem?_eq_getElem (by omega)]; rfl

theorem one_facts {w : World} {vb : Nat} {e : TypeId} {x : Value} (h : w.heap[vb]? = some (.cells #[x] e (0, 0))) :
    (∀ (j : Nat) u, [x][j]? = some u → w.cell? ⟨vb, 0 + j, none⟩ = some u) ∧ w.shape? vb = some (e, 1) := by
  refine ⟨fun j u hu => ?_, by simp [World.shape?, h]⟩
  have hj := (List.getElem?_eq_some_iff.1 hu).1
  obtain rfl : j = 0 := by simp at hj; omega
  rw [Nat.zero_add, cell_of_row w vb 0 _ e (0, 0) h]
  simpa using hu

theorem add_zero_lit (g j : Nat) : (⟨g, 0, none⟩ : Addr).add j = ⟨g, 0 + j, none⟩ := by unfold Addr.add; split <;> simp_all

set_option maxHeartbeats 1000000 in
theorem insT_any (base n i vb : Nat) (v x : Value) (xs : List Value) (w : World) (hr : w.ownsRow base 9 1 v n xs) (hi : i ≤ n) (hvb : w.heap[vb]? = some (.cells #[x] 9 (0, 0))) (hne : some vb ≠ v.ownBlock)
    (hbase : base ≤ w.heap.size) (hlen : n < 1000000) (h1c : ∀ u ∈ xs, u.oneCell' = true) (h1x : x.oneCell' = true) :
    Calls Tryz.prog 97 #[v, .int .i64 i, .slice (some ⟨vb, 0, none⟩) 1 1] w fun e w' => ∃ v', e = .returned v' ∧ Inserted w w' base 9 v v' n i xs x := by
  obtain ⟨hvs, hsa⟩ := one_facts hvb
  have hz : (Value.string ⟨#[]⟩).cells.size = 1 := rfl
  have hx1 : ∀ u ∈ [x], u.oneCell' = true := by simpa using h1x
  have hfv : ∀ j, w.frozen? ⟨vb, j, none⟩ = false := fun j => by simp [World.frozen?, hvb]
  rcases hr.2 with ⟨rfl, rfl⟩ | ⟨g, cap, cur, rfl, _⟩
  · obtain rfl : xs = [] := List.eq_nil_of_length_eq_zero (by simpa using hr.1)
    obtain rfl : i = 0 := by omega
    have h : Calls Tryz.prog 97 _ w _ := Any2.slices_Insert_string_end_grow Tryz.laysNm222 none 0 0 vb 0 1 1 [] [x] w (by decide) (Nat.le_refl _) (by decide) (by decide) rfl rfl (fun _ => rfl) (fun a ha => by cases ha) hvs hx1
    refine h.mono ?_
    rintro e w' ⟨rfl, rfl⟩
    exact ⟨_, rfl, own_endgrow (c := 0) rfl hz hbase (by simp [maxLen])⟩
  · obtain ⟨hl, hn, hm, hcs, hsp, hfz, hsh⟩ := row_facts hr
    have hm' : cap ≤ 9223372036854775807 := by simpa [maxLen] using hm
    by_cases hin : i = n
    · subst hin
      by_cases hroom : i + 1 ≤ cap
      · have h : Calls Tryz.prog 97 _ w _ := Any2.slices_Insert_string_end_room Tryz.laysNm222 g 0 i cap vb 0 1 1 [x] w (by decide) hroom hm' rfl (fun j hj => by have := hsp (i + j) (by omega); simpa using this) (fun j hj => by have := hfz (i + j); simpa using this) hvs hx1
        refine h.mono ?_
        rintro e w' ⟨rfl, rfl⟩
        rw [Nat.zero_add]
        exact ⟨_, rfl, own_end hr hroom⟩
      · have h : Calls Tryz.prog 97 _ w _ := Any2.slices_Insert_string_end_grow Tryz.laysNm222 (some ⟨g, 0, none⟩) i cap vb 0 1 1 xs [x] w (by decide) hn (by omega) (by omega) hl rfl (fun h => by cases h) (fun a ha j u hu => by cases ha; rw [add_zero_lit]; exact hcs j u hu) hvs hx1
        refine h.mono ?_
        rintro e w' ⟨rfl, rfl⟩
        exact ⟨_, rfl, own_endgrow hl hz hbase (by simp [maxLen]; omega)⟩
    · have hin' : i < n := by omega
      by_cases hroom : n + 1 ≤ cap
      · have h : Calls Tryz.prog 97 _ w _ := Any2.slices_Insert_string_shift Tryz.laysNm222 g 0 n cap i vb 0 1 1 xs [x] w hin' (by decide) hroom hm' (fun e => hne (by simp [Value.ownBlock, e])) hl rfl hcs (fun j hj => hsp j (by omega)) (fun j _ => hfz j) hvs h1c hx1 _ _ _ _ hsa hsh (by omega) (hfv 0) (hfv 1)
        refine h.mono ?_
        rintro e w' ⟨rfl, rfl⟩
        simp only [Nat.zero_add]
        exact ⟨_, rfl, own_shift hr hi hroom⟩
      · have h : Calls Tryz.prog 97 _ w _ := Any2.slices_Insert_string_grow Tryz.laysNm222 g 0 n cap i vb 0 1 1 xs [x] w hin' (by decide) hn (by omega) (by omega) hl rfl hcs hvs h1c hx1
        refine h.mono ?_
        rintro e w' ⟨rfl, rfl⟩
        exact ⟨_, rfl, own_grow hl hin' hz hbase (by simp [maxLen]; omega)⟩

set_option maxHeartbeats 1000000 in
theorem insI_any (base n i vb : Nat) (v x : Value) (xs : List Value) (w : World) (hr : w.ownsRow base 3 1 v n xs) (hi : i ≤ n) (hvb : w.heap[vb]? = some (.cells #[x] 3 (0, 0))) (hne : some vb ≠ v.ownBlock)
    (hbase : base ≤ w.heap.size) (hlen : n < 1000000) (h1c : ∀ u ∈ xs, u.oneCell' = true) (h1x : x.oneCell' = true) :
    Calls Tryz.prog 88 #[v, .int .i64 i, .slice (some ⟨vb, 0, none⟩) 1 1] w fun e w' => ∃ v', e = .returned v' ∧ Inserted w w' base 3 v v' n i xs x := by
  obtain ⟨hvs, hsa⟩ := one_facts hvb
  have hz : (Value.int .i64 0).cells.size = 1 := rfl
  have hx1 : ∀ u ∈ [x], u.oneCell' = true := by simpa using h1x
  have hfv : ∀ j, w.frozen? ⟨vb, j, none⟩ = false := fun j => by simp [World.frozen?, hvb]
  rcases hr.2 with ⟨rfl, rfl⟩ | ⟨g, cap, cur, rfl, _⟩
  · obtain rfl : xs = [] := List.eq_nil_of_length_eq_zero (by simpa using hr.1)
    obtain rfl : i = 0 := by omega
    have h : Calls Tryz.prog 88 _ w _ := Any2.slices_Insert_int_end_grow Tryz.laysNm221 none 0 0 vb 0 1 1 [] [x] w (by decide) (Nat.le_refl _) (by decide) (by decide) rfl rfl (fun _ => rfl) (fun a ha => by cases ha) hvs hx1
    refine h.mono ?_
    rintro e w' ⟨rfl, rfl⟩
    exact ⟨_, rfl, own_endgrow (c := 0) rfl hz hbase (by simp [maxLen])⟩
  · obtain ⟨hl, hn, hm, hcs, hsp, hfz, hsh⟩ := row_facts hr
    have hm' : cap ≤ 9223372036854775807 := by simpa [maxLen] using hm
    by_cases hin : i = n
    · subst hin
      by_cases hroom : i + 1 ≤ cap
      · have h : Calls Tryz.prog 88 _ w _ := Any2.slices_Insert_int_end_room Tryz.laysNm221 g 0 i cap vb 0 1 1 [x] w (by decide) hroom hm' rfl (fun j hj => by have := hsp (i + j) (by omega); simpa using this) (fun j hj => by have := hfz (i + j); simpa using this) hvs hx1
        refine h.mono ?_
        rintro e w' ⟨rfl, rfl⟩
        rw [Nat.zero_add]
        exact ⟨_, rfl, own_end hr hroom⟩
      · have h : Calls Tryz.prog 88 _ w _ := Any2.slices_Insert_int_end_grow Tryz.laysNm221 (some ⟨g, 0, none⟩) i cap vb 0 1 1 xs [x] w (by decide) hn (by omega) (by omega) hl rfl (fun h => by cases h) (fun a ha j u hu => by cases ha; rw [add_zero_lit]; exact hcs j u hu) hvs hx1
        refine h.mono ?_
        rintro e w' ⟨rfl, rfl⟩
        exact ⟨_, rfl, own_endgrow hl hz hbase (by simp [maxLen]; omega)⟩
    · have hin' : i < n := by omega
      by_cases hroom : n + 1 ≤ cap
      · have h : Calls Tryz.prog 88 _ w _ := Any2.slices_Insert_int_shift Tryz.laysNm221 g 0 n cap i vb 0 1 1 xs [x] w hin' (by decide) hroom hm' (fun e => hne (by simp [Value.ownBlock, e])) hl rfl hcs (fun j hj => hsp j (by omega)) (fun j _ => hfz j) hvs h1c hx1 _ _ _ _ hsa hsh (by omega) (hfv 0) (hfv 1)
        refine h.mono ?_
        rintro e w' ⟨rfl, rfl⟩
        simp only [Nat.zero_add]
        exact ⟨_, rfl, own_shift hr hi hroom⟩
      · have h : Calls Tryz.prog 88 _ w _ := Any2.slices_Insert_int_grow Tryz.laysNm221 g 0 n cap i vb 0 1 1 xs [x] w hin' (by decide) hn (by omega) (by omega) hl rfl hcs hvs h1c hx1
        refine h.mono ?_
        rintro e w' ⟨rfl, rfl⟩
        exact ⟨_, rfl, own_grow hl hin' hz hbase (by simp [maxLen]; omega)⟩

end Go.Proofs.YtcjblafohfiiaabGreat
