/-
  Policy: the document's turn in memory; ran, cycle, above.
-/
import Derived.Test.YtcijdbhabbepaaaGreatDoorKGMem
import Derived.Test.YtcijdbhabbepaaaGreatDoorPC2
import Derived.Test.YtcijdbhabbepaaaGreatDoorPP2
import Derived.Maps.AppendAt
import Derived.Deep.RegionLaw
set_option linter.unusedVariables false
set_option maxRecDepth 20000
namespace Go.Proofs.YtcijdbhabbepaaaGreatDoor.Po
open Go.RowKit Go.Proofs.YtcijdbhabbepaaaGreatDoor.Kg

abbrev vv (v : Vw) : Value := .agg #[.int .i64 v.er, .int .i64 v.yo, .int .i64 v.te, .int .i64 v.tr]

/-- The cells of a turn. -/
abbrev rfc (c : Cfg) (k : Task) (t : Tst) (v : Value) : Array Value := #[.int .i64 c.eden, .int .i64 c.surv, .int .i64 c.ten, .int .i64 c.large, .int .i64 c.floor, .int .i64 c.num, .int .i64 c.den, .int .i64 c.target, .int .i64 c.maxAge, .int .i64 c.threads, .int .i64 c.slots, .int .i64 c.handles, .int .i64 c.buffer, .int .i64 c.workers, .int .i64 k.kind, .int .i64 k.words, .int .i64 k.first, .int .i64 k.most, v, .bool t.cl, .bool t.ov]

/-- The document's turn in block b; v: its cycles. -/
structure Rf (w : World) (base b : Nat) (v : Value) (c : Cfg) (k : Task) (t : Tst) : Prop where
  at_ : w.heap[b]? = some (.cells (rfc c k t v) 75 (0, 0))
  row : w.ownsRow base 3 1 v t.ran.length (ints t.ran)
  lo : base ≤ b
  le : t.ran.length ≤ 1000

theorem Rf.lt {w : World} {base b : Nat} {v : Value} {c : Cfg} {k : Task} {t : Tst} (h : Rf w base b v c k t) : b < w.heap.size := heap_lt h.at_

theorem Rf.cell {w : World} {base b : Nat} {v : Value} {c : Cfg} {k : Task} {t : Tst} (h : Rf w base b v c k t) (j : Nat) (x : Value) (hx : (rfc c k t v)[j]? = some x) : w.cell? ⟨b, j, none⟩ = some x := (heap_cell h.at_ j).trans hx

theorem Rf.frozen {w : World} {base b : Nat} {v : Value} {c : Cfg} {k : Task} {t : Tst} (h : Rf w base b v c k t) (j : Nat) : w.frozen? ⟨b, j, none⟩ = false := heap_frozen h.at_ j

theorem Rf.bv {w : World} {base b : Nat} {v : Value} {c : Cfg} {k : Task} {t : Tst} (h : Rf w base b v c k t) : some b ≠ v.ownBlock := row_ne h.at_ h.row

theorem Rf.touch {w w' : World} {base b : Nat} {v : Value} {c : Cfg} {k : Task} {t : Tst} {G : List Nat} (h : Rf w base b v c k t) (ht : Kg.Touch G w w') (hb : b ∉ G) (hv : ∀ g, v.ownBlock = some g → g ∉ G) : Rf w' base b v c k t :=
  ⟨(ht.block b h.lt hb).trans h.at_, row_keep2 h.row ht hv, h.lo, h.le⟩

theorem Rf.below {w w' : World} {base b : Nat} {v : Value} {c : Cfg} {k : Task} {t : Tst} (h : Rf w base b v c k t) (hb : Below w.heap.size w w') : Rf w' base b v c k t := h.touch (Kg.Touch.of_below hb []) (by simp) (by simp)

theorem Rf.shut {w : World} {base b : Nat} {v : Value} {c : Cfg} {k : Task} {t : Tst} (h : Rf w base b v c k t) : Rf (w.setCell ⟨b, 19, none⟩ (.bool true)) base b v c k t.close :=
  ⟨heap_set h.at_ 19 _, ownsRow_setOther h.row h.bv _, h.lo, h.le⟩

theorem Rf.over {w : World} {base b : Nat} {v : Value} {c : Cfg} {k : Task} {t : Tst} (h : Rf w base b v c k t) : Rf (w.setCell ⟨b, 20, none⟩ (.bool true)) base b v c k { t with ov := true } :=
  ⟨heap_set h.at_ 20 _, ownsRow_setOther h.row h.bv _, h.lo, h.le⟩

/-- What a step of a turn touches. -/
def Fp (b : Nat) (v : Value) : List Nat := b :: v.ownBlock.toList

theorem above_any (n : Int) (w : World) : Calls Tryz.prog 41 #[.int .i64 n] w fun e w' => e = .returned (.int .i64 (clp n)) ∧ w = w' := by
  by_cases h : n < 0
  · go_enter Tryz.func41, Tryz.ntmps41
    go_wp2
    go_ret
    exact ⟨by simp [clp, h], rfl⟩
  · have h' : decide (n < 0) = false := decide_eq_false h
    have hc : Hid (clp n = n) := clp_of (by omega)
    go_enter Tryz.func41, Tryz.ntmps41
    go_wp2
    go_ret
    exact ⟨by rw [hc.out]; rfl, rfl⟩

set_option maxHeartbeats 4000000 in
theorem ran_any {w : World} {base b : Nat} {v : Value} {c : Cfg} {k : Task} {t : Tst} (h : Rf w base b v c k t) (x : Int) :
    Calls Tryz.prog 43 #[.pointer (some ⟨b, 0, none⟩), .int .i64 x] w fun e w' => e = .returned (.bool (decide (x ∈ t.ran))) ∧ w = w' := by
  have HR : Hid (Rf w base b v c k t) := h
  have hle := h.le
  obtain ⟨va, vc, hve⟩ : ∃ a cap, v = .slice a t.ran.length cap := by
    rcases h.row.2 with ⟨rfl, e⟩ | ⟨g, cap, cur, rfl, _⟩
    · exact ⟨_, _, by rw [e]⟩
    · exact ⟨_, _, rfl⟩
  have c18 := h.cell 18 v rfl
  rw [hve] at c18
  have Hve : Hid (v = .slice va t.ran.length vc) := hve
  clear h hve
  go_enter Tryz.func43, Tryz.ntmps43
  go_wp2
  go_loopw [5] (fun i wr => ∃ n : Nat, n ≤ t.ran.length ∧ i = .int .i64 n ∧ wr = w ∧ ∀ (j : Nat) y, j < n → t.ran[j]? = some y → y ≠ x) (fun i _ => t.ran.length - (intOf i).toNat)
  case atStart => exact ⟨0, Nat.zero_le _, rfl, rfl, fun j y hj => by omega⟩
  case round =>
    obtain ⟨n, hn, rfl, rfl, hno⟩ := hrel
    have Hno : Hid (∀ (j : Nat) y, j < n → t.ran[j]? = some y → y ≠ x) := hno
    clear hno
    by_cases hlt : n < t.ran.length
    · obtain ⟨y, hy⟩ : ∃ y, t.ran[n]? = some y := ⟨_, List.getElem?_eq_getElem hlt⟩
      have hni : (n : Int) < t.ran.length := by omega
      have hrow := HR.out.row
      rw [Hve.out] at hrow
      have hcell : ∃ g, va = some ⟨g, 0, none⟩ ∧ wr.cell? ⟨g, n, none⟩ = some (.int .i64 y) := by
        rcases hrow.2 with ⟨e, e2⟩ | ⟨g, cap, cur, e, _⟩
        · omega
        · simp only [Value.slice.injEq, true_and] at e
          refine ⟨g, e.1, ?_⟩
          rw [e.1] at hrow
          rw [hrow.cellAt _ (by omega)]
          simp [ints, hy]
      obtain ⟨g, rfl, cn⟩ := hcell
      have Hy : Hid (t.ran[n]? = some y) := hy
      clear hrow hy
      by_cases hxy : y = x
      · subst hxy
        go_wp2
        go_returns
        exact ⟨by rw [decide_eq_true (List.mem_of_getElem? Hy.out)]; rfl, rfl⟩
      · have hxy' : (y == x) = false := by simpa using hxy
        go_wp2
        go_roundw
        case rel => exact ⟨n + 1, hlt, by go_num, trivial, fun j z hj hz => by
          by_cases e : j = n
          · subst e; rw [Hy.out] at hz; simp at hz; subst hz; exact hxy
          · exact Hno.out j z (by omega) hz⟩
        case measure => simp [intOf]; omega
    · obtain rfl : n = t.ran.length := by omega
      go_wp2
      go_ret
      refine ⟨?_, rfl⟩
      rw [decide_eq_false (fun hm => by
        obtain ⟨j, hj⟩ := List.getElem?_of_mem hm
        exact Hno.out j x (List.getElem?_eq_some_iff.1 hj).1 hj rfl)]
      rfl

set_option maxHeartbeats 4000000 in
theorem cycle_any {w : World} {base b : Nat} {v : Value} {c : Cfg} {k : Task} {t : Tst} (h : Rf w base b v c k t) (hl : t.ran.length < 1000) (s x : Int) :
    Calls Tryz.prog 44 #[.pointer (some ⟨b, 0, none⟩), .int .i64 s, .int .i64 x] w fun e w' => e = .returned (.int .i64 s) ∧ ∃ v', Rf w' base b v' c k (t.cyc x) ∧ Kg.Touch (Fp b v) w w' ∧ Newer w.heap.size (Fp b v) (Fp b v') := by
  obtain ⟨i0, a0, a1, a2, a3⟩ := info_parts Tryz.infoInt
  have HR : Hid (Rf w base b v c k t) := h
  obtain ⟨va, vc, hve⟩ : ∃ a cap, v = .slice a t.ran.length cap := by
    rcases h.row.2 with ⟨rfl, e⟩ | ⟨g, cap, cur, rfl, _⟩
    · exact ⟨_, _, by rw [e]⟩
    · exact ⟨_, _, rfl⟩
  subst hve
  have c18 := h.cell 18 _ rfl
  have Hb : Hid (base ≤ w.heap.size) := by have := h.lo; have := h.lt; exact (by omega : base ≤ w.heap.size)
  have Hrow : Hid (w.ownsRow base 3 1 (.slice va t.ran.length vc) t.ran.length (ints t.ran)) := h.row
  clear h
  go_enter Tryz.func44, Tryz.ntmps44
  go_wp2_with (at_builtin; refine wpList_append_own_at _ rfl _ _ 29 rfl base 3 i0 (.int .i64 0) 1 8 Tryz.underlying29 a0 a1 a2 a3 rfl (by decide) (.slice va t.ran.length vc) t.ran.length (ints t.ran) rfl (Hrow.out.alloc _) ⟨w.heap.size, 0, none⟩ 1 1 [.int .i64 x] rfl rfl (cell_one_new _ _ _) (by simp [Value.oneCell']) (by simp [maxLen]; omega) (by omega) (by have := Hb.out; simp; omega) ?_)
  intro v' w1 ho hg _ hat
  have ht : Kg.Touch (Value.slice va t.ran.length vc).ownBlock.toList w w1 := (Kg.Touch.alloc _ _ _).trans (Kg.Touch.grown hg (fun k hk => by simp [hk]))
  have hbn : b ∉ (Value.slice va t.ran.length vc).ownBlock.toList := fun hm => HR.out.bv (by have h9 : (Value.slice va t.ran.length vc).ownBlock = some b := (by simpa using hm); exact h9.symm)
  have h1 : w1.heap[b]? = some (.cells (rfc c k t (.slice va t.ran.length vc)) 75 (0, 0)) := (ht.block b HR.out.lt hbn).trans HR.out.at_
  have d18 : w1.cell? ⟨b, 18, none⟩ = some (.slice va t.ran.length vc) := heap_cell h1 18
  have z18 : w1.frozen? ⟨b, 18, none⟩ = false := heap_frozen h1 18
  have hbn2 : some b ≠ v'.ownBlock := row_ne h1 ho
  have HF : Hid (Rf (w1.setCell ⟨b, 18, none⟩ v') base b v' c k (t.cyc x)) := ⟨heap_set h1 18 _, ownsRow_setOther (by simpa [Tst.cyc, ints] using ho) hbn2 _, HR.out.lo, by simp [Tst.cyc]; omega⟩
  have HT : Hid (Kg.Touch (Fp b (.slice va t.ran.length vc)) w (w1.setCell ⟨b, 18, none⟩ v')) := (ht.mono (fun k hk => .inl (by simp [Fp]; right; simpa using hk))).trans (Kg.Touch.setCell _ _ _ (by simp [Fp]))
  have HN : Hid (Newer w.heap.size (Fp b (.slice va t.ran.length vc)) (Fp b v')) := fun q hq => by
    simp only [Fp, List.mem_cons, Option.mem_toList] at hq ⊢
    rcases hq with rfl | hq
    · exact .inl (.inl rfl)
    · rcases hat with e | e
      · exact .inl (.inr (by rw [← e]; exact hq))
      · rw [e] at hq; simp at hq; exact .inr (by omega)
  obtain ⟨ga, gc, rfl⟩ : ∃ a cap, v' = .slice a (t.ran.length + 1) cap := by
    rcases ho.2 with ⟨rfl, e⟩ | ⟨g, cap, cur, rfl, _⟩
    · omega
    · exact ⟨_, _, rfl⟩
  clear ho hg hat ht hbn h1 hbn2 c18
  go_wp2
  go_ret
  exact ⟨rfl, _, HF.out, HT.out, HN.out⟩

end Go.Proofs.YtcijdbhabbepaaaGreatDoor.Po
