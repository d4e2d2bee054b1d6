/-
  Prune.
-/
import Derived.Test.YtfihjmoaibmllaaDoorY17
set_option linter.unusedVariables false
set_option maxRecDepth 20000
namespace Go.Proofs.YtfihjmoaibmllaaDoor
open Go.RowKit Go.Shelf

section
variable {w1 w w' : World} {n1 sb b g mb n : Nat} {lv : Value} {c : Cfg} {x : Tps} {sw : Bool} {ws : Nat → Int} {th : List Tng} {l : List Int} {S : Int → Bool}

set_option maxHeartbeats 2000000 in
theorem prune_any (H : Rm w1 n1 w sb b g mb lv c x sw ws th l n S) (mv : Value) (more : List Int) (hm : Lrd w.heap.size w mv .i64 more) (hls : ∀ a, a ∈ l → ∃ T, T ∈ th ∧ T.at_ = a) (hms : ∀ a, a ∈ more → ∃ T, T ∈ th ∧ T.at_ = a) (hl : l.length ≤ 10000) (hml : more.length ≤ 10000) (hn : n ≤ 100000) :
    Calls Tryd.prog 18 #[.pointer (some ⟨sb, 0, none⟩), mv] w fun e w' => e = .returned (.tuple #[]) ∧ Touch [sb, mb, b, g] w w' ∧ ∃ lv' ws' n', Rm w1 n1 w' sb b g mb lv' c x sw ws' (mk_ (inS' (hta c sw th) S (ded (l ++ more))) (ded (l ++ more)) th) ((ded (l ++ more)).filter (hta c sw th)) n' (inS' (hta c sw th) S (ded (l ++ more))) ∧ n' ≤ n + 20000 := by
  have k1 : w.cell? ⟨sb, 1, none⟩ = some lv := H.rs.cell 1
  have hin : ∀ a, a ∈ l ++ more → InI a := fun a ha => by
    obtain ⟨T, h1, h2⟩ : ∃ T, T ∈ th ∧ T.at_ = a := by
      rcases List.mem_append.1 ha with h | h
      · exact hls a h
      · exact hms a h
    have := H.bq.ax.pos h1
    rw [← h2]
    unfold InI
    omega
  have l1 : Below w.heap.size w (w.alloc (.cells #[lv, mv] 42)) := Below.alloc (Below.refl _ _) (Nat.le_refl _) _
  have hc := concat_any w.heap.size 2 (two lv mv) (two l more) (w.alloc (.cells #[lv, mv] 42)) (fun k hk => by
    have e := cell_of_row _ _ k _ _ _ (heap_alloc_new w (.cells #[lv, mv] 42 (0, 0)))
    rw [e]
    match k, hk with
    | 0, _ => rfl
    | 1, _ => rfl) (fun k hk => by
    match k, hk with
    | 0, _ => exact ((Lrd.of_row H.rs.row).below l1).mono l1.size
    | 1, _ => exact (hm.below l1).mono l1.size) (fun k hk => by
    match k, hk with
    | 0, _ => show l.length ≤ _; omega
    | 1, _ => show more.length ≤ _; omega)
  rw [upto_two] at hc
  have hlen2 : (l ++ more).length ≤ 20000 := by simp; omega
  have hth2 : ∀ a, a ∈ ded (l ++ more) → ∃ T, T ∈ th ∧ T.at_ = a := fun a ha => by
    rcases List.mem_append.1 ((mem_ded _ a).1 ha) with h | h
    · exact hls a h
    · exact hms a h
  obtain ⟨xs, hxs⟩ : ∃ xs, xs = l ++ more := ⟨_, rfl⟩
  rw [← hxs] at hc hin hlen2 hth2 ⊢
  clear hxs
  have HR : Hid (Rm w1 n1 w sb b g mb lv c x sw ws th l n S) := H
  have Hin : Hid (∀ a, a ∈ xs → InI a) := hin
  have Hth : Hid (∀ a, a ∈ ded xs → ∃ T, T ∈ th ∧ T.at_ = a) := hth2
  have Hlen : Hid (xs.length ≤ 20000) := hlen2
  obtain ⟨a1, n2, c1, rfl⟩ := row_slice H.rs.row
  obtain ⟨a2, c2, rfl, -, -⟩ := hm
  clear H hin hls hms hlen2 hth2
  go_enter Tryd.func18, Tryd.ntmps18
  go_wp2_with fail
  refine hc.mono ?_
  rintro e w3 ⟨v3, rfl, h3, l3⟩
  have l3' := l1.trans (l3.mono l1.size)
  have ho := once_any v3 xs w3 (Lrd.of_row h3) Hin.out (by have := Hlen.out; omega)
  obtain ⟨a3, c3, rfl⟩ := own_sl h3
  clear hc k1 l1 l3 h3
  go_wp2_with fail
  refine ho.mono ?_
  rintro e w4 ⟨v4, rfl, h4, l4⟩
  have l4' := l3'.trans (l4.mono l3'.size)
  have hr := renew_any (HR.out.below l4') v4 (ded xs) h4 Hth.out (by have := Hlen.out; have := ded_len xs; omega) (by omega)
  obtain ⟨a4, c4, rfl⟩ := own_sl h4
  have HL4 : Hid (Touch [sb, mb, b, g] w w4) := Touch.of_below l4' _
  clear ho l3' l4 h4 l4'
  go_wp2_with fail
  refine hr.mono ?_
  rintro e w5 ⟨rfl, t5, lv5, ws5, R5⟩
  have HT5 : Hid (Touch [sb, mb, b, g] w w5) := HL4.out.trans t5
  have HR5 : Hid (Rm w1 n1 w5 sb b g mb lv5 c x sw ws5 (mk_ (inS' (hta c sw th) S (ded xs)) (ded xs) th) ((ded xs).filter (hta c sw th)) (n + (ded xs).length) (inS' (hta c sw th) S (ded xs))) := R5
  have Hd : Hid ((ded xs).length ≤ 20000) := by
    have := Hlen.out
    have := ded_len xs
    show _ ≤ _
    omega
  clear hr R5 t5
  go_wp2
  go_end0
  exact ⟨rfl, HT5.out, lv5, ws5, _, HR5.out, by have := Hd.out; omega⟩
end

end Go.Proofs.YtfihjmoaibmllaaDoor
