/-
  Policy: the landed turn in memory; its small calls.
-/
import Derived.Test.YtcijdbhabbepaaaGreatDoorPR3
import Derived.Test.YtcijdbhabbepaaaGreatDoorKGB
import Derived.ArgAppend
import Derived.Laws.EntriesVeiled
set_option linter.unusedVariables false
set_option maxRecDepth 20000
namespace Go.Proofs.YtcijdbhabbepaaaGreatDoor.Po
open Go.RowKit Go.Proofs.YtcijdbhabbepaaaGreatDoor.Kg

abbrev fnClosing : Value := .func (.func 76) #[] #[]
abbrev fnBig : Value := .func (.func 73) #[] #[]
abbrev fnSmall : Value := .func (.func 72) #[] #[]
abbrev fnMajor : Value := .func (.func 75) #[] #[]
abbrev fnForced (g : Nat) : Value := .func (.func 106) #[] #[.pointer (some ⟨g, 0, none⟩)]

/-- What a turn does next. -/
def act (k : Task) (t : Tst) (g : Nat) : Value :=
  if t.ov = true then .nilFunc
  else if t.cl = true ∨ k.kind = 5 then fnClosing
  else if k.kind = 1 then (if k.big = true then fnBig else fnSmall)
  else if k.kind = 4 then fnMajor
  else fnForced g

/-- Which cycle a step is. -/
def cyo (s : Int) : Int := if s = 3 then 1 else if s = 4 then 2 else if s = 5 then 3 else 0

def Tst.app (t : Tst) (s : Int) : Tst := if cyo s = 0 then t else t.cyc (cyo s)

abbrev ptc (k : Task) (f v : Value) : Array Value := #[.int .i64 k.first, .int .i64 k.most, .int .i64 k.words, f, v]

/-- The landed turn in block b; v its cycles, g the box of what is forced. -/
structure Pt (w : World) (base b : Nat) (v : Value) (g : Nat) (k : Task) (t : Tst) : Prop where
  at_ : w.heap[b]? = some (.cells (ptc k (act k t g) v) 66 (0, 0))
  row : w.ownsRow base 3 1 v t.ran.length (ints t.ran)
  box : k.kind = 2 ∨ k.kind = 3 → w.heap[g]? = some (.cells #[.int .i64 (k.kind + 1)] 3 (0, 0))
  gv : v.ownBlock ≠ some g
  gl : g < w.heap.size
  lo : base ≤ b
  le : t.ran.length ≤ 1000

def Fq (b : Nat) (v : Value) (g : Nat) : List Nat := b :: g :: v.ownBlock.toList

theorem fq_b (b : Nat) (v : Value) (g : Nat) : b ∈ Fq b v g := by simp [Fq]
theorem fq_g (b : Nat) (v : Value) (g : Nat) : g ∈ Fq b v g := by simp [Fq]

section
variable {w w' : World} {base b : Nat} {v : Value} {g : Nat} {k : Task} {t : Tst}

theorem Pt.lt (h : Pt w base b v g k t) : b < w.heap.size := heap_lt h.at_
theorem Pt.cell (h : Pt w base b v g k t) (j : Nat) (x : Value) (hx : (ptc k (act k t g) v)[j]? = some x) : w.cell? ⟨b, j, none⟩ = some x := (heap_cell h.at_ j).trans hx
theorem Pt.frozen (h : Pt w base b v g k t) (j : Nat) : w.frozen? ⟨b, j, none⟩ = false := heap_frozen h.at_ j
theorem Pt.bv (h : Pt w base b v g k t) : some b ≠ v.ownBlock := row_ne h.at_ h.row
theorem Pt.gb (h : Pt w base b v g k t) (hk : k.kind = 2 ∨ k.kind = 3) : g ≠ b := fun e => by
  have h1 := h.box hk
  rw [e, h.at_] at h1
  simp at h1
theorem Pt.boxc (h : Pt w base b v g k t) (hk : k.kind = 2 ∨ k.kind = 3) : w.cell? ⟨g, 0, none⟩ = some (.int .i64 (k.kind + 1)) := heap_cell (h.box hk) 0

theorem Pt.touch {G : List Nat} (h : Pt w base b v g k t) (ht : Kg.Touch G w w') (hb : ∀ q, q ∈ Fq b v g → q ∉ G) : Pt w' base b v g k t :=
  ⟨(ht.block b h.lt (hb b (fq_b _ _ _))).trans h.at_, row_keep2 h.row ht (fun q hq => hb q (by simp [Fq, hq])), fun hk => (ht.block g h.gl (hb g (fq_g _ _ _))).trans (h.box hk), h.gv, Nat.lt_of_lt_of_le h.gl ht.size, h.lo, h.le⟩

theorem Pt.below (h : Pt w base b v g k t) (hb : Below w.heap.size w w') : Pt w' base b v g k t := h.touch (Kg.Touch.of_below hb []) (by simp)

/-- The next action is put in place. -/
theorem Pt.put (h : Pt w base b v g k t) (t' : Tst) (hr : t'.ran = t.ran) (f : Value) (hf : f = act k t' g) : Pt (w.setCell ⟨b, 3, none⟩ f) base b v g k t' := by
  subst hf
  refine ⟨heap_set h.at_ 3 _, ?_, fun hk => ?_, h.gv, by simpa using h.gl, h.lo, by rw [hr]; exact h.le⟩
  · rw [hr]; exact ownsRow_setOther h.row h.bv _
  · rw [(Kg.Touch.setCell (F := [b]) w ⟨b, 3, none⟩ (act k t' g) (by simp)).block g h.gl (by simpa using h.gb hk)]
    exact h.box hk
end

theorem act_close {k : Task} {t : Tst} (g : Nat) (hov : t.ov = false) : act k t.close g = fnClosing := by
  unfold act Tst.close; simp [hov]
theorem act_over {k : Task} {t : Tst} (g : Nat) : act k { t with ov := true } g = .nilFunc := by
  unfold act; simp

theorem run_maker {P : Program} (fn : Fn) (first cap : Array Value) (w : World) : (Instr.makeFunc fn first cap).run P w = .ok (.func fn first cap) w := rfl

set_option maxHeartbeats 4000000 in
theorem counted_any (x : Vw) (w : World) : Calls Tryz.prog 35 #[vv x] w fun e w' => e = .returned (vv x.clip) ∧ Below w.heap.size w w' := by
  go_enter Tryz.func35, Tryz.ntmps35
  go_wp2
  all_goals
    refine bodyPost_ret (v := vv x.clip) (by simp [results, Tryz.results35, go_sem, Vw.clip, clp, *] <;> omega) rfl ?_
    exact ⟨rfl, by go_grown⟩

theorem guaranteed_any (x : Vw) (w : World) : Calls Tryz.prog 105 #[vv x] w fun e w' => e = .returned (.bool (decide (x.yo ≤ x.tr))) ∧ Below w.heap.size w w' := by
  by_cases h : x.yo ≤ x.tr
  · rw [decide_eq_true h]
    go_enter Tryz.func105, Tryz.ntmps105
    go_wp2
    go_ret
    exact ⟨rfl, Below.alloc (Below.refl _ _) (Nat.le_refl _) _⟩
  · have h' : decide (x.yo ≤ x.tr) = false := decide_eq_false h
    rw [h']
    go_enter Tryz.func105, Tryz.ntmps105
    go_wp2
    go_ret
    exact ⟨rfl, Below.alloc (Below.refl _ _) (Nat.le_refl _) _⟩

theorem cycleOf_any (s : Int) (w : World) : Calls Tryz.prog 36 #[.int .i64 s] w fun e w' => e = .returned (.int .i64 (cyo s)) ∧ w' = w := by
  by_cases h3 : s = 3
  · subst h3
    go_enter Tryz.func36, Tryz.ntmps36
    go_wp2
    go_returns
    exact ⟨rfl, rfl⟩
  · by_cases h4 : s = 4
    · subst h4
      go_enter Tryz.func36, Tryz.ntmps36
      go_wp2
      go_returns
      exact ⟨rfl, rfl⟩
    · by_cases h5 : s = 5
      · subst h5
        go_enter Tryz.func36, Tryz.ntmps36
        go_wp2
        go_returns
        exact ⟨rfl, rfl⟩
      · have e : Hid (cyo s = 0) := (by unfold cyo; rw [if_neg h3, if_neg h4, if_neg h5] : cyo s = 0)
        have a3 : (s == 3) = false := by simpa using h3
        have a4 : (s == 4) = false := by simpa using h4
        have a5 : (s == 5) = false := by simpa using h5
        go_enter Tryz.func36, Tryz.ntmps36
        go_wp2
        go_ret
        exact ⟨by rw [e.out]; rfl, rfl⟩

end Go.Proofs.YtcijdbhabbepaaaGreatDoor.Po
