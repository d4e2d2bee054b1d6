/-
  Policy: Index, Contains, ran; what a phase does; enter, lastly.
-/
import Derived.Test.YtcijdbhabbepaaaGreatDoorPL1
set_option linter.unusedVariables false
set_option maxRecDepth 20000
namespace Go.Proofs.YtcijdbhabbepaaaGreatDoor.Po
open Go.RowKit Go.Proofs.YtcijdbhabbepaaaGreatDoor.Kg

set_option maxHeartbeats 4000000 in
theorem index_any {w : World} {base n : Nat} {v : Value} {l : List Int} (h : w.ownsRow base 3 1 v n (ints l)) (hn : n = l.length) (hle : l.length ≤ 1000) (x : Int) :
    Calls Tryz.prog 77 #[v, .int .i64 x] w fun e w' => (∃ r : Int, e = .returned (.int .i64 r) ∧ (0 ≤ r ↔ x ∈ l)) ∧ w' = w := by
  subst hn
  have HR : Hid (w.ownsRow base 3 1 v l.length (ints l)) := h
  obtain ⟨va, vc, hve⟩ := row_slice h
  subst hve
  clear h
  go_enter Tryz.func77, Tryz.ntmps77
  go_wp2
  go_loopw [8] (fun i wr => ∃ n : Nat, n ≤ l.length ∧ i = .int .i64 n ∧ wr = w ∧ ∀ (j : Nat) y, j < n → l[j]? = some y → y ≠ x) (fun i _ => l.length - (intOf i).toNat)
  case atStart => exact ⟨0, Nat.zero_le _, rfl, rfl, fun j y hj => by omega⟩
  case round =>
    obtain ⟨n, hn, rfl, rfl, hno⟩ := hrel
    have Hno : Hid (∀ (j : Nat) y, j < n → l[j]? = some y → y ≠ x) := hno
    clear hno
    by_cases hlt : n < l.length
    · obtain ⟨y, hy⟩ : ∃ y, l[n]? = some y := ⟨_, List.getElem?_eq_getElem hlt⟩
      have hni : (n : Int) < l.length := by omega
      have hrow := HR.out
      have hcell : ∃ g, va = some ⟨g, 0, none⟩ ∧ wr.cell? ⟨g, n, none⟩ = some (.int .i64 y) := by
        rcases hrow.2 with ⟨e, e2⟩ | ⟨g, cap, cur, e, _⟩
        · omega
        · simp only [Value.slice.injEq, true_and] at e
          refine ⟨g, e.1, ?_⟩
          rw [e.1] at hrow
          rw [hrow.cellAt _ (by omega)]
          simp [ints, hy]
      obtain ⟨g, rfl, cn⟩ := hcell
      have Hy : Hid (l[n]? = some y) := hy
      clear hrow hy
      by_cases hxy : y = x
      · subst hxy
        go_wp2
        go_returns
        exact ⟨⟨n, rfl, by simpa using List.mem_of_getElem? Hy.out⟩, rfl⟩
      · have hxy' : (x == y) = false := by simpa using fun e : x = y => hxy e.symm
        go_wp2
        go_roundw
        case rel => exact ⟨n + 1, hlt, by go_num, trivial, fun j z hj hz => by
          by_cases e : j = n
          · subst e; rw [Hy.out] at hz; simp at hz; subst hz; exact hxy
          · exact Hno.out j z (by omega) hz⟩
        case measure => simp [intOf]; omega
    · obtain rfl : n = l.length := by omega
      go_wp2
      go_ret
      refine ⟨⟨-1, rfl, ?_⟩, rfl⟩
      refine ⟨fun h => by omega, fun hm => ?_⟩
      obtain ⟨j, hj⟩ := List.getElem?_of_mem hm
      exact absurd rfl (Hno.out j x (List.getElem?_eq_some_iff.1 hj).1 hj)

theorem contains_any {w : World} {base n : Nat} {v : Value} {l : List Int} (h : w.ownsRow base 3 1 v n (ints l)) (hn : n = l.length) (hle : l.length ≤ 1000) (x : Int) :
    Calls Tryz.prog 69 #[v, .int .i64 x] w fun e w' => e = .returned (.bool (decide (x ∈ l))) ∧ w' = w := by
  have q := index_any h hn hle x
  by_cases hm : x ∈ l
  · rw [decide_eq_true hm]
    go_enter Tryz.func69, Tryz.ntmps69
    go_wp2_with fail
    refine q.mono ?_
    rintro e w1 ⟨⟨r, rfl, hr⟩, rfl⟩
    have h0 : 0 ≤ r := hr.2 hm
    clear hr
    go_wp2
    go_ret
    exact ⟨rfl, rfl⟩
  · rw [decide_eq_false hm]
    go_enter Tryz.func69, Tryz.ntmps69
    go_wp2_with fail
    refine q.mono ?_
    rintro e w1 ⟨⟨r, rfl, hr⟩, rfl⟩
    have h1 : decide (0 ≤ r) = false := decide_eq_false (fun h => hm (hr.1 h))
    clear hr
    go_wp2
    go_ret
    exact ⟨rfl, rfl⟩

theorem pran_any {w : World} {base b : Nat} {v : Value} {g : Nat} {k : Task} {t : Tst} (h : Pt w base b v g k t) (x : Int) :
    Calls Tryz.prog 45 #[.pointer (some ⟨b, 0, none⟩), .int .i64 x] w fun e w' => e = .returned (.bool (decide (x ∈ t.ran))) ∧ w' = w := by
  have q := contains_any h.row rfl h.le x
  have c4 := h.cell 4 v rfl
  obtain ⟨va, vc, rfl⟩ := row_slice h.row
  clear h
  go_enter Tryz.func45, Tryz.ntmps45
  go_wp2_with fail
  refine q.mono ?_
  rintro e w1 ⟨rfl, rfl⟩
  clear q
  go_wp2
  go_ret
  exact ⟨rfl, rfl⟩

theorem action_closing (w : World) : Calls Tryz.prog 62 #[.int .i64 6] w fun e w' => e = .returned fnClosing ∧ w' = w := by
  go_enter Tryz.func62, Tryz.ntmps62
  go_wp2
  go_returns
  exact ⟨rfl, rfl⟩

theorem action_over (w : World) : Calls Tryz.prog 62 #[.int .i64 0] w fun e w' => e = .returned .nilFunc ∧ w' = w := by
  go_enter Tryz.func62, Tryz.ntmps62
  go_wp2
  go_ret
  exact ⟨rfl, rfl⟩

theorem action_small (w : World) : Calls Tryz.prog 62 #[.int .i64 1] w fun e w' => e = .returned fnSmall ∧ w' = w := by
  go_enter Tryz.func62, Tryz.ntmps62
  go_wp2
  go_returns
  exact ⟨rfl, rfl⟩

theorem action_big (w : World) : Calls Tryz.prog 62 #[.int .i64 2] w fun e w' => e = .returned fnBig ∧ w' = w := by
  go_enter Tryz.func62, Tryz.ntmps62
  go_wp2
  go_returns
  exact ⟨rfl, rfl⟩

theorem action_major (w : World) : Calls Tryz.prog 62 #[.int .i64 5] w fun e w' => e = .returned fnMajor ∧ w' = w := by
  go_enter Tryz.func62, Tryz.ntmps62
  go_wp2
  go_returns
  exact ⟨rfl, rfl⟩

theorem forced_any (s : Int) (w : World) : Calls Tryz.prog 74 #[.int .i64 s] w fun e w' => e = .returned (fnForced w.heap.size) ∧ w' = w.alloc (.cells #[.int .i64 s] 3) := by
  have hmf : ∀ (fn : Fn) (first cap : Array Value) (w : World), (Instr.makeFunc fn first cap).run Tryz.prog w = .ok (.func fn first cap) w := fun _ _ _ _ => rfl
  go_enter Tryz.func74, Tryz.ntmps74
  go_wp2
  go_ret
  exact ⟨rfl, rfl⟩

theorem action_forced (s : Int) (hs : s = 3 ∨ s = 4) (w : World) : Calls Tryz.prog 62 #[.int .i64 s] w fun e w' => e = .returned (fnForced w.heap.size) ∧ w' = w.alloc (.cells #[.int .i64 s] 3) := by
  have q := forced_any s w
  rcases hs with rfl | rfl
  all_goals
    go_enter Tryz.func62, Tryz.ntmps62
    go_wp2_with fail
    refine q.mono ?_
    rintro e w1 ⟨rfl, rfl⟩
    go_wp2
    go_returns
    exact ⟨rfl, rfl⟩

/-- The next action is put in place, behind what makes it. -/
theorem enter_any {w w1 : World} {b : Nat} {cs : Array Value} {s : Int} {f : Value} {fn : Fn} {cap : Array Value} (h : w.heap[b]? = some (.cells cs 66 (0, 0))) (h5 : cs.size = 5) (hw : w1.heap[b]? = some (.cells cs 66 (0, 0))) (hf : f = .nilFunc ∨ f = .func fn #[] cap)
    (q : Calls Tryz.prog 62 #[.int .i64 s] w fun e w' => e = .returned f ∧ w' = w1) :
    Calls Tryz.prog 33 #[.pointer (some ⟨b, 0, none⟩), .int .i64 s] w fun e w' => e = .returned (.tuple #[]) ∧ w' = w1.setCell ⟨b, 3, none⟩ f := by
  obtain ⟨c3, hc3⟩ : ∃ c3, w1.cell? ⟨b, 3, none⟩ = some c3 := by
    rw [heap_cell hw]
    exact ⟨_, Array.getElem?_eq_getElem (by omega)⟩
  have z3 := heap_frozen hw 3
  clear h hw
  rcases hf with rfl | rfl
  all_goals
    go_enter Tryz.func33, Tryz.ntmps33
    go_wp2_with fail
    refine q.mono ?_
    rintro e w2 ⟨rfl, rfl⟩
    clear q
    go_wp2
    go_end0
    exact ⟨rfl, rfl⟩

theorem enter_closing {w : World} {base b : Nat} {v : Value} {g : Nat} {k : Task} {t : Tst} (h : Pt w base b v g k t) (hov : t.ov = false) :
    Calls Tryz.prog 33 #[.pointer (some ⟨b, 0, none⟩), .int .i64 6] w fun e w' => e = .returned (.tuple #[]) ∧ Pt w' base b v g k t.close ∧ Kg.Touch [b] w w' :=
  (enter_any h.at_ rfl h.at_ (.inr rfl) (action_closing w)).mono fun e w' ⟨h1, h2⟩ => ⟨h1, by rw [h2]; exact h.put t.close rfl _ (act_close g hov).symm, by rw [h2]; exact Kg.Touch.setCell _ _ _ (by simp)⟩

theorem enter_over {w : World} {base b : Nat} {v : Value} {g : Nat} {k : Task} {t : Tst} (h : Pt w base b v g k t) :
    Calls Tryz.prog 33 #[.pointer (some ⟨b, 0, none⟩), .int .i64 0] w fun e w' => e = .returned (.tuple #[]) ∧ Pt w' base b v g k { t.close with ov := true } ∧ Kg.Touch [b] w w' :=
  (enter_any (fn := .func 0) (cap := #[]) h.at_ rfl h.at_ (.inl rfl) (action_over w)).mono fun e w' ⟨h1, h2⟩ => ⟨h1, by rw [h2]; exact h.put { t.close with ov := true } rfl _ (act_over (t := t.close) g).symm, by rw [h2]; exact Kg.Touch.setCell _ _ _ (by simp)⟩

theorem lastly_any {w : World} {base b : Nat} {v : Value} {g : Nat} {k : Task} {t : Tst} (h : Pt w base b v g k t) (hov : t.ov = false) (s : Int) :
    Calls Tryz.prog 104 #[.pointer (some ⟨b, 0, none⟩), .int .i64 s] w fun e w' => e = .returned (.int .i64 s) ∧ Pt w' base b v g k t.close ∧ Kg.Touch [b] w w' := by
  have q := enter_closing h hov
  clear h
  go_enter Tryz.func104, Tryz.ntmps104
  go_wp2_with fail
  refine q.mono ?_
  rintro e w2 ⟨rfl, h1, h2⟩
  have HA : Hid (Pt w2 base b v g k t.close ∧ Kg.Touch [b] w w2) := ⟨h1, h2⟩
  clear q h1 h2
  go_wp2
  go_ret
  exact ⟨rfl, HA.out.1, HA.out.2⟩

end Go.Proofs.YtcijdbhabbepaaaGreatDoor.Po
