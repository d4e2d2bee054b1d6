/-
  The walk that is gone through within itself.
-/
import Derived.Test.YtbdkcelggffneaaDoorA13
set_option linter.unusedVariables false
namespace Go.Proofs.YtbdkcelggffneaaDoor
open Go.RowKit Go.Shelf

set_option maxRecDepth 4000 in
set_option maxHeartbeats 4000000 in
theorem wtake_more (wb : Nat) (f : Nat → Value) (mo a s k pp r ag t : Int) (h : Bool) (pre : List Int) (hs : List Value) (va vh : Value) (hne : pre ≠ []) (hl2 : pre.length < 1000000) (hm : (pre.length : Int) + 1 ≤ mo) (W : World) (hT : Tk W wb 100 13 1 f 0 mo pre hs va vh false) :
    Calls Tryd.prog 49 #[.pointer (some ⟨wb, 0, none⟩), .int .i64 a, hv s k pp r ag t h] W fun r1 W' => r1 = .returned (.bool true) ∧ ∃ va' vh', Tk W' wb 100 13 1 (fun j => if j = 1 + 4 then .bool false else if j = 1 + 1 then vh' else if j = 1 then va' else f j) 0 mo (pre ++ [a]) (hs ++ (hcells s k pp r ag t h).toList) va' vh' false ∧ Touch (Tk.foot wb va vh) W W' ∧
      (∀ q, va'.ownBlock = some q → va.ownBlock = some q ∨ W.heap.size ≤ q) ∧ (∀ q, vh'.ownBlock = some q → vh.ownBlock = some q ∨ W.heap.size ≤ q) := by
  have b0 : Below W.heap.size W (W.alloc (.cells (hcells s k pp r ag t h) 46)) := Below.alloc (Below.refl _ _) (Nat.le_refl _) _
  have k0 := hT.below b0
  have hb0 : Hb (W.alloc (.cells (hcells s k pp r ag t h) 46)) W.heap.size (hcells s k pp r ag t h) := ⟨heap_alloc_new W _⟩
  obtain ⟨ad, cap, hva⟩ := hT.va
  have hpos : 0 < pre.length := List.length_pos_iff.2 hne
  clear hT
  go_enter Tryd.func49, Tryd.ntmps49
  go_upto_region 1 with fail
  generalize (W.alloc (.cells (hcells s k pp r ag t h) 46)) = w0 at *
  have c1 : w0.cell? ⟨wb, 1, none⟩ = some (.slice ad pre.length cap) := by rw [k0.row.cell (i := 1) (by decide), k0.f0, hva]
  have x0 : w0.cell? ⟨W.heap.size, 0, none⟩ = some (.int .u64 s) := cell_of_row _ _ 0 _ _ _ hb0.at_
  have x1 : w0.cell? ⟨W.heap.size, 1, none⟩ = some (.int .i64 k) := cell_of_row _ _ 1 _ _ _ hb0.at_
  have x2 : w0.cell? ⟨W.heap.size, 2, none⟩ = some (.int .i64 pp) := cell_of_row _ _ 2 _ _ _ hb0.at_
  have x3 : w0.cell? ⟨W.heap.size, 3, none⟩ = some (.int .i64 r) := cell_of_row _ _ 3 _ _ _ hb0.at_
  have x4 : w0.cell? ⟨W.heap.size, 4, none⟩ = some (.int .i64 ag) := cell_of_row _ _ 4 _ _ _ hb0.at_
  have x5 : w0.cell? ⟨W.heap.size, 5, none⟩ = some (.int .i64 t) := cell_of_row _ _ 5 _ _ _ hb0.at_
  have x6 : w0.cell? ⟨W.heap.size, 6, none⟩ = some (.bool h) := cell_of_row _ _ 6 _ _ _ hb0.at_
  have hpi : (0 : Int) < (pre.length : Int) := by omega
  have K0 : Hid (Tk w0 wb 100 13 1 f 0 mo pre hs va vh false) := k0
  have Hva : Hid (va = .slice ad pre.length cap) := hva
  clear k0 hva hb0
  go_upto_region 4 with fail
  refine quiet_tail 5 mixed (by kernel_rfl) ?_
  simp only [List.take_succ_cons, List.take_zero, List.drop_succ_cons, List.drop_zero]
  repeat (go_big_quiet_step (fail))
  refine wpQuiet_nil ?_
  go_wp2_with fail
  have k1d : Tk (w0.drewN 1) wb 100 13 1 f 0 mo pre hs va vh false := K0.out.keep (fun _ _ => rfl)
  refine (take_any wb 100 13 1 f 0 mo pre hs va vh a s k pp r ag t h false (by
    show false = decide _
    rw [eq_comm, decide_eq_false_iff_not]
    omega) (w0.drewN 1) k1d hl2).mono ?_
  rintro r1 w4 ⟨rfl, va', vh', k4, t6, hn4, hn5⟩
  clear x0 x1 x2 x3 x4 x5 x6 k1d c1
  have t7 : Touch (Tk.foot wb va vh) W w4 := (Touch.of_below b0 _).trans ⟨t6.os, t6.tape, t6.output, t6.size, t6.block⟩
  have hs0 : W.heap.size ≤ w0.heap.size := b0.size
  have K4 : Hid (Tk w4 wb 100 13 1 (fun j => if j = 1 + 4 then .bool false else if j = 1 + 1 then vh' else if j = 1 then va' else f j) 0 mo (pre ++ [a]) (hs ++ (hcells s k pp r ag t h).toList) va' vh' false) := k4
  have hn4' : ∀ q, va'.ownBlock = some q → va.ownBlock = some q ∨ w0.heap.size ≤ q := hn4
  have hn5' : ∀ q, vh'.ownBlock = some q → vh.ownBlock = some q ∨ w0.heap.size ≤ q := hn5
  have HN : Hid ((∀ q, va'.ownBlock = some q → va.ownBlock = some q ∨ w0.heap.size ≤ q) ∧ (∀ q, vh'.ownBlock = some q → vh.ownBlock = some q ∨ w0.heap.size ≤ q)) := ⟨hn4', hn5'⟩
  clear k4 t6 hn4 hn5 hn4' hn5'
  go_wp2
  go_ret
  refine ⟨rfl, va', vh', K4.out, t7, fun q hq => ?_, fun q hq => ?_⟩
  · rcases HN.out.1 q hq with h | h
    · exact .inl h
    · exact .inr (by omega)
  · rcases HN.out.2 q hq with h | h
    · exact .inl h
    · exact .inr (by omega)

theorem wtake_enters : ∀ args w, (callFunc 49 args).run Tryd.prog w = .ok (.enter 49 args) w := enters_of Tryd.func49 (by kernel_rfl) rfl

set_option maxHeartbeats 1000000 in
theorem walk_within (b g ca cs : Nat) (c : Cfg) (x : Tps) (sw : Bool) (ws : Nat → Int) (S : Int) (l : List Int) (p e : Int) (hp : Past c ws (x.top S) (fst c S) p) (hwk : Walk c ws (x.top S) p l e)
    (W0 : World) (hI : It W0 b g ca cs c x sw ws S) (wb : Nat) (f0 : Nat → Value) (mo : Int) (hl : (l.length : Int) ≤ mo) (hl2 : l.length < 1000000) (hT : Tk W0 wb 100 13 1 f0 0 mo [] [] nilS nilS false) (hO : Off [wb] b g ca cs)
    (hf0 : f0 0 = .func (.func 58) #[] #[.pointer (some ⟨ca, 0, none⟩), .pointer (some ⟨cs, 0, none⟩)]) (m0 : f0 7 = nilS) (m1 : f0 8 = nilS) (m2 : f0 9 = .int .i64 0) (m3 : f0 10 = .int .i64 0) (m4 : f0 11 = .bool false) (m5 : f0 12 = .bool false) :
    Calls Tryd.prog 58 #[.func (.func 49) #[.pointer (some ⟨wb, 0, none⟩)] #[], .pointer (some ⟨ca, 0, none⟩), .pointer (some ⟨cs, 0, none⟩)] W0 fun r W' => r = .returned (.tuple #[]) ∧ Touch [wb] W0 W' ∧
      ((l = [] ∧ Tk W' wb 100 13 1 f0 0 mo [] [] nilS nilS false) ∨ (l ≠ [] ∧ ∃ f va vh va2 vh2, Tk W' wb 100 13 1 f 0 mo l (hcl c ws l) va vh false ∧ Tk W' wb 100 13 7 f 0 mo l (hcl c ws l) va2 vh2 false)) := by
  have hw := walk_any b g ca cs c x sw ws S l p e hp hwk W0 hI 49 (.pointer (some ⟨wb, 0, none⟩))
    (fun F pre W => (pre = [] ∧ F = [wb] ∧ It W b g ca cs c x sw ws S ∧ Tk W wb 100 13 1 f0 0 mo [] [] nilS nilS false) ∨ (pre ≠ [] ∧ ∃ f va vh va2 vh2, F = Tk.foot wb va vh ∧ Tk W wb 100 13 1 f 0 mo pre (hcl c ws pre) va vh false ∧ Tk W wb 100 13 7 f 0 mo l (hcl c ws l) va2 vh2 false ∧ (∀ q, va2.ownBlock = some q → va.ownBlock ≠ some q) ∧ (∀ q, vh2.ownBlock = some q → vh.ownBlock ≠ some q)))
    (fun _ _ => False) wtake_enters
    (by
      rintro F pre W (⟨-, rfl, -, h⟩ | ⟨-, f, va, vh, va2, vh2, rfl, h, -⟩) q hq
      · simp at hq; subst hq; exact h.row.lt
      · exact h.footLt q hq)
    (by
      rintro F pre W W' (⟨hp, hF, hi, h⟩ | ⟨hp, f, va, vh, va2, vh2, hF, h, h2, h3, h4⟩) l
      · exact .inl ⟨hp, hF, hi.below l, h.below l⟩
      · exact .inr ⟨hp, f, va, vh, va2, vh2, hF, h.below l, h2.below l, h3, h4⟩)
    (by
      rintro F pre a W (⟨rfl, rfl, hi, h⟩ | ⟨hpn, f, va, vh, va2, vh2, rfl, h, h2, h3, h4⟩) hpre
      · have hlen := pre_len hpre
        simp at hlen
        refine (wtake_first b g ca cs c x sw ws S l p e hp hwk wb f0 mo a _ _ _ _ _ _ _ hl hl2 (by omega) W hi hO h hf0 m0 m1 m2 m3 m4 m5).mono ?_
        rintro r W' ⟨rfl, f', va, vh, va2, vh2, k1, k7, -, ht, n1, n2, n3, n4⟩
        refine ⟨ht, .inl ⟨rfl, Tk.foot wb va vh, ?_, .inr ⟨by simp, f', va, vh, va2, vh2, rfl, ?_, k7, fun q hq => (n3 q hq).2, fun q hq => (n4 q hq).2⟩⟩⟩
        · intro q hq
          simp only [Tk.foot, List.mem_cons, List.mem_append, Option.mem_toList] at hq
          rcases hq with rfl | hq | hq
          · exact .inl (by simp)
          · exact .inr (n1 q hq)
          · exact .inr (n2 q hq)
        · rw [hcl_snoc]
          exact k1
      · have hlen := pre_len hpre
        refine (wtake_more wb f mo a _ _ _ _ _ _ _ pre (hcl c ws pre) va vh hpn (by omega) (by omega) W h).mono ?_
        rintro r W' ⟨rfl, va', vh', k1, ht, n1, n2⟩
        refine ⟨ht, .inl ⟨rfl, Tk.foot wb va' vh', foot_newer n1 n2, .inr ⟨by simp, _, va', vh', va2, vh2, rfl, ?_, ⟨k1.row, by decide, ?_, ?_, ?_, ?_, ?_, ?_, ?_, ?_, by decide, by decide⟩, ?_, ?_⟩⟩⟩
        · rw [hcl_snoc]
          exact k1
        · exact h2.f0
        · exact h2.f1
        · exact h2.f2
        · exact h2.f3
        · exact h2.f4
        · exact h2.f5
        · refine row_keep h2.ra (fun q hq => ht.block q (row_lt h2.ra q hq) (fun hm => ?_))
          simp only [Tk.foot, List.mem_cons, List.mem_append, Option.mem_toList] at hm
          rcases hm with rfl | hm | hm
          · obtain ⟨cs', hcs', -, -⟩ := h2.row
            exact row_ne hcs' h2.ra (by decide) hq.symm
          · exact h3 q hq hm
          · exact rows_ne h2.ra h.rh (by decide) q hq hm
        · refine row_keep h2.rh (fun q hq => ht.block q (row_lt h2.rh q hq) (fun hm => ?_))
          simp only [Tk.foot, List.mem_cons, List.mem_append, Option.mem_toList] at hm
          rcases hm with rfl | hm | hm
          · obtain ⟨cs', hcs', -, -⟩ := h2.row
            exact row_ne hcs' h2.rh (by decide) hq.symm
          · exact rows_ne h2.rh h.ra (by decide) q hq hm
          · exact h4 q hq hm
        · intro q hq e
          rcases n1 q e with h' | h'
          · exact h3 q hq h'
          · have := row_lt h2.ra q hq; omega
        · intro q hq e
          rcases n2 q e with h' | h'
          · exact h4 q hq h'
          · have := row_lt h2.rh q hq; omega)
    [wb] hO (.inl ⟨rfl, rfl, hI, hT⟩)
  refine hw.mono ?_
  rintro r W' ⟨rfl, ht, ⟨F', -, ⟨rfl, -, -, h⟩ | ⟨hne, f, va, vh, va2, vh2, -, h1, h2, -⟩⟩ | ⟨pre, -, -, hF⟩⟩
  · exact ⟨rfl, ht, .inl ⟨rfl, h⟩⟩
  · exact ⟨rfl, ht, .inr ⟨hne, f, va, vh, va2, vh2, h1, h2⟩⟩
  · exact hF.elim

end Go.Proofs.YtbdkcelggffneaaDoor
